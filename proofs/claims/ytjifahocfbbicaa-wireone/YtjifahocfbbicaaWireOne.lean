/-
  WireOne, whole (Rows.WireOneSaid): what is read of any bytes has just the bytes that were gone through. No conditions.
  The frame is the shell of the proof by program (proof-skeleton); the walk is mine.
-/
import Derived.Test.YtjifahocfbbicaaRows
import Derived.WalkKit
import Derived.ProofKit
import Derived.OpenShut
import Derived.ShutString
import Derived.ChangeOld
import Derived.Below
import Derived.SizedLaws
import Derived.Test.YtjifahocfbbicaaSteps
namespace Go.Proofs.Ytjifahocfbbicaa.wireOne
open Go.ChangeShapes Go.WideShapes Go.ChangeAt Go.RowKit
set_option linter.unusedVariables false
theorem own : ownKnob Try.prog.godebug = none := by kernel_rfl
theorem laidOut : laidOutB Try.prog = true := by kernel_rfl
theorem cut_head (A : Option Addr) (n c m : Nat) (z : Int) (hz : z = (m : Int)) (hm : m ≤ n) (hnc : n ≤ c) :
    ∃ A', (∀ w, (Instr.sliceAt 27 (.slice A n c) none (some (.int .i64 z)) none).run Try.prog w = .ok (.slice A' m c) w) ∧ (∀ w l, Bs w A n l → Bs w A' m (l.take m)) := by
  subst hz
  refine ⟨if c = 0 then A else A.map (·.add (0 * 1)), fun w => ?_, fun w l hb => ?_⟩
  · have h2 : (m : Int) ≤ c := by omega
    simp [Instr.sliceAt, Instr.slice, run_underlying Try.byteTypes.ht, Instr.sliceBounds, run_sliceBound, h2]
  · by_cases hc : c = 0
    · rw [if_pos hc]; exact hb.take hm
    · rw [if_neg hc]
      by_cases hn : n = 0
      · rw [show m = 0 by omega, List.take_zero]; exact Bs.nil _ _
      · obtain ⟨b, off, x, hA, _⟩ := hb.get (k := 0) (by omega)
        subst hA
        rw [Option.map_some, Addr.add_mid]
        exact hb.take hm
theorem num_read (l : List UInt8) (hl : l.length ≤ 2000) (E : Int) (V S : Nat) (hq : rdNum l = (E, V, S)) (g b : Nat) (w : World) (h : Rdr w 61 g b 0 l) :
    Calls Try.prog 22 #[.pointer (some ⟨g, 0, none⟩), .int .u64 18446744073709551615] w fun e w' => e = .returned (.int .u64 (V : Int)) ∧ Rdr w' 61 g b E (l.drop S) ∧ Only g w w' := by
  have h1 := RNum_any g b 0 l 18446744073709551615 w h (by omega) (by omega) (by omega)
  have e : sNum 0 l 18446744073709551615 = (E, V, S) := by unfold sNum; rw [if_pos rfl, rdLen_max, hq]
  rw [e] at h1
  exact h1
theorem text_read (l : List UInt8) (hl : l.length ≤ 2000) (E : Int) (T : List UInt8) (n S : Nat) (hn : T.length = n) (hq : rdText l 2000 = (E, T, S)) (g b : Nat) (w : World) (h : Rdr w 61 g b 0 l) :
    Calls Try.prog 24 #[.pointer (some ⟨g, 0, none⟩), .int .i64 2000] w fun e w' => ∃ A c, e = .returned (.slice A n c) ∧ Own w' w.heap.size 5 (.slice A n c) n T ∧ Rdr w' 61 g b E (l.drop S) ∧ Only g w w' := by
  have h1 := RText_any g b 0 l 2000 w h (by omega) (by omega)
  have e : sText 0 l 2000 = (E, T, S) := by unfold sText; rw [if_pos rfl, hq]
  rw [e] at h1
  refine h1.mono fun e w' ⟨A, c, h2, _, h3, h4, h5⟩ => ?_
  simp only at h2 h3 h4
  rw [hn] at h2 h3
  exact ⟨A, c, h2, h3, h4, h5⟩
theorem list_read (l : List UInt8) (hl : l.length ≤ 2000) (E : Int) (L : List (List UInt8)) (n S : Nat) (hn : L.length = n) (hq : rdList l 2000 2000 = (E, L, S)) (g b : Nat) (w : World) (h : Rdr w 61 g b 0 l) :
    Calls Try.prog 27 #[.pointer (some ⟨g, 0, none⟩), .int .i64 2000, .int .i64 2000] w fun e w' => ∃ A c, e = .returned (.slice A n c) ∧ OwnL w' w.heap.size (.slice A n c) n L ∧ Rdr w' 61 g b E (l.drop S) ∧ Only g w w' := by
  have h1 := RList_any g b 0 l 2000 2000 w h (by omega) (by omega) (by omega)
  have e : sList 0 l 2000 2000 = (E, L, S) := by unfold sList; rw [if_pos rfl, hq]
  rw [e] at h1
  refine h1.mono fun e w' ⟨A, c, h2, _, h3, h4, h5⟩ => ?_
  simp only at h2 h3 h4
  rw [hn] at h2 h3
  exact ⟨A, c, h2, h3, h4, h5⟩
theorem left_read (l : List UInt8) (S n : Nat) (hn : (l.drop S).length = n) (E : Int) (g b : Nat) (w : World) (h : Rdr w 61 g b E (l.drop S)) :
    Calls Try.prog 36 #[.pointer (some ⟨g, 0, none⟩)] w fun e w' => e = .returned (.int .i64 (n : Int)) ∧ w = w' := by
  have := Left_any g b E _ w h; rwa [hn] at this
theorem new_take {w : World} {q l : List UInt8} {S : Nat} {f : FuncId} {args : Array Value} (h : Calls Try.prog f args w (NewSlice w q)) (hq : q = l.take S) (hS : S ≤ l.length) :
    Calls Try.prog f args w fun e w' => ∃ A c, e = .returned (.slice A S c) ∧ Below w.heap.size w w' ∧ Own w' w.heap.size 5 (.slice A S c) S (l.take S) := by
  subst hq
  have hl : (l.take S).length = S := by rw [List.length_take]; omega
  refine h.mono fun e w' ⟨A, c, h1, _, h2, h3⟩ => ?_
  rw [hl] at h1 h3
  exact ⟨A, c, h1, h2, h3⟩
set_option maxRecDepth 100000 in
set_option maxHeartbeats 8000000 in
theorem walk (w : World) (a0 : Option Addr) (len0 cap0 : Nat) (l : List UInt8) (w0 : Bs w a0 len0 l) (s0 : len0 ≤ cap0 ∧ cap0 ≤ 140737488351232) :
    Calls Try.prog 6 #[.slice a0 len0 cap0] w fun e w' => e = .returned (.bool true) ∧ Below w.heap.size w w' := by
  have HB := Lib.hid w0
  have hlen := w0.1
  clear w0
  by_cases h2000 : 2000 < len0
  · clear hlen
    go_enter Try.func6, Try.ntmps6
    go_wp2_with (go_at_call 11; refine (awake_any _).mono ?_; rintro e w3 ⟨rfl, hb3⟩)
    go_ret
    exact ⟨rfl, hb3⟩
  have hl2 : l.length ≤ 2000 := by omega
  have HOW := Lib.hid (fun w h => own_any a0 len0 cap0 l w h (by omega))
  have HRD := Lib.hid (fun A c w h => Read_any A len0 c l w h (by omega))
  unfold NewSlice at HOW
  rw [hlen] at HOW
  obtain ⟨E1, V1, S1, hq1⟩ := triple (rdNum l)
  obtain ⟨E2, T2, S2, hq2⟩ := triple (rdText l 2000)
  obtain ⟨E3, L3, S3, hq3⟩ := triple (rdList l 2000 2000)
  have hS1 := rdNum_size l
  have hS2 := rdText_size l 2000
  have hS3 := rdList_size l 2000 2000
  have hV1 := rdNum_lt l
  rw [hq1] at hS1 hV1
  rw [hq2] at hS2
  rw [hq3] at hS3
  simp only at hS1 hS2 hS3 hV1
  obtain ⟨n2, hn2⟩ : ∃ n2, T2.length = n2 := ⟨_, rfl⟩
  obtain ⟨n3, hn3⟩ : ∃ n3, L3.length = n3 := ⟨_, rfl⟩
  obtain ⟨F1, hF1⟩ : ∃ F, (l.drop S1).length = F := ⟨_, rfl⟩
  obtain ⟨F2, hF2⟩ : ∃ F, (l.drop S2).length = F := ⟨_, rfl⟩
  obtain ⟨F3, hF3⟩ : ∃ F, (l.drop S3).length = F := ⟨_, rfl⟩
  have hT2 : T2.length ≤ 2000 := by have := rdText_len l 2000; rw [hq2] at this; simp only at this; omega
  have HR1 := Lib.hid (num_read l hl2 E1 V1 S1 hq1)
  have HR2 := Lib.hid (text_read l hl2 E2 T2 n2 S2 hn2 hq2)
  have HR3 := Lib.hid (list_read l hl2 E3 L3 n3 S3 hn3 hq3)
  have HF1 := Lib.hid (left_read l S1 F1 hF1)
  have HF2 := Lib.hid (left_read l S2 F2 hF2)
  have HF3 := Lib.hid (left_read l S3 F3 hF3)
  have HC1 := Lib.hid (fun (h : E1 = 0) w => new_take (Num_any V1 w hV1) (by have := numB_one l (by rw [hq1]; exact h); rwa [hq1] at this) hS1)
  have HC2 := Lib.hid (fun (h : E2 = 0) A c w hb => new_take (Text_any A n2 c T2 w hb (by omega)) (by have := textB_one l 2000 (by rw [hq2]; exact h); rwa [hq2] at this) hS2)
  have HL3 : E3 = 0 → n3 ≤ 1000000 ∧ ∀ t ∈ L3, t.length ≤ 1000000 := fun h => by
    rcases rdList_cases l 2000 2000 with ⟨h1, _⟩ | ⟨h0, h1, h2⟩
    · rw [hq3] at h1; exact absurd h h1
    · rw [hq3] at h2
      have e3 : L3 = (rdTexts 2000 (rdLen l 2000).2.1 (l.drop (rdLen l 2000).2.2)).2.1 := congrArg (fun x => x.2.1) h2
      obtain ⟨k1, k2⟩ := rdTexts_count 2000 _ _ h1
      rw [← e3] at k1 k2
      rcases rdLen_cases l 2000 with ⟨h3, _⟩ | ⟨_, h3, h4⟩
      · exact absurd h0 h3
      · rw [← h3] at h4
        refine ⟨by omega, fun t ht => ?_⟩
        have := k2 t ht
        rw [List.length_drop] at this
        omega
  have HC3 := Lib.hid (fun (h : E3 = 0) A c w hb => new_take (List_any A n3 c L3 w hb (HL3 h).1 (HL3 h).2) (by have := listB_one l 2000 2000 (by rw [hq3]; exact h); rwa [hq3] at this) hS3)
  have HE3 : E3 ≠ 0 → F3 = len0 := fun h => by
    rcases rdList_cases l 2000 2000 with ⟨_, h1⟩ | ⟨_, _, h2⟩
    · rw [hq3] at h1
      have : S3 = 0 := congrArg Prod.snd h1
      subst this
      rw [List.drop_zero] at hF3
      omega
    · rw [hq3] at h2; exact absurd (congrArg Prod.fst h2) h
  rw [List.length_drop] at hF1 hF2 hF3
  obtain ⟨B1, hc1, HB1⟩ := cut_head a0 len0 cap0 S1 ((len0 : Int) - (F1 : Int)) (by omega) (by omega) s0.1
  obtain ⟨B2, hc2, HB2⟩ := cut_head a0 len0 cap0 S2 ((len0 : Int) - (F2 : Int)) (by omega) (by omega) s0.1
  obtain ⟨B3, hc3, HB3⟩ := cut_head a0 len0 cap0 S3 ((len0 : Int) - (F3 : Int)) (by omega) (by omega) s0.1
  have K1 := Lib.hid HB1
  have K2 := Lib.hid HB2
  have K3 := Lib.hid HB3
  have i1 : S1 ≤ 2000 := by omega
  have i2 : S2 ≤ 2000 := by omega
  have i3 : S3 ≤ 2000 := by omega
  have j1 : F1 ≤ len0 := by omega
  have j2 : F2 ≤ len0 := by omega
  have j3 : F3 ≤ len0 := by omega
  have HZ := Lib.hid HE3
  clear hlen hl2 hq1 hq2 hq3 hS1 hS2 hS3 hV1 hn2 hn3 hT2 HL3 HE3 hF1 hF2 hF3 HB1 HB2 HB3
  by_cases z1 : E1 = 0
  · by_cases z2 : E2 = 0
    · by_cases z3 : E3 = 0
      · have p0 := Below.refl w.heap.size w
        subst z1
        have z1 : (0 : Int) = 0 := rfl
        subst z2
        have z2 : (0 : Int) = 0 := rfl
        subst z3
        have z3 : (0 : Int) = 0 := rfl
        have Z1 := Lib.hid (True.intro)
        go_enter Try.func6, Try.ntmps6
        go_wp2_with (first
          | (go_at_call 14; have hz := p2e; clear hz; refine (HOW.out _ (HB.out.below p2e)).mono ?_; rintro e w31 ⟨A31, c31, rfl, hcc3, hb31, ho31⟩; have p3a := p2e.trans (hb31.mono p2e.size))
          | (go_at_call 21; have hz := p3a; clear hz; refine (HRD.out A31 c31 _ ho31.bs).mono ?_; rintro e w32 ⟨g3, b3, rfl, hg3, hbk3, hr32, hb32⟩; have p3b := p3a.trans (hb32.mono p3a.size); have hG3 := Nat.le_trans p3a.size hg3; have H32 := Lib.hid hr32; clear hr32)
          | (go_at_call 27; refine (HR3.out g3 b3 _ H32.out).mono ?_; rintro e w33 ⟨A33, c33, rfl, ht33, hr33, ho33⟩; have p3c := p3b.trans (ho33.below hG3 p3b.size); have H33 := Lib.hid hr33; clear hr33)
          | (go_at_call 35; have hz := H33.out; clear hz; refine (Err_rdr g3 b3 _ _ _ H33.out).mono ?_; rintro e w3x ⟨rfl, rfl⟩)
          | (go_at_call 18; refine (HC3.out z3 A33 c33 _ ht33.bss).mono ?_; rintro e w34 ⟨A34, c34, rfl, hb34, ho34⟩; have p3d := p3c.trans (hb34.mono p3c.size); have H34 := Lib.hid (H33.out.below hb34))
          | (go_at_call 36; refine (HF3.out _ g3 b3 _ H34.out).mono ?_; rintro e w3y ⟨rfl, rfl⟩)
          | (go_at_call 12; refine (Same_yes A34 B3 S3 c34 _ (l.take S3) _ ho34.bs (K3.out _ _ (HB.out.below p3d)) (by omega)).mono ?_; rintro e w35 ⟨rfl, m3, rfl⟩; have p3e := below_drewN p3d m3)
          | (go_at_call 14; have hz := p1e; clear hz; refine (HOW.out _ (HB.out.below p1e)).mono ?_; rintro e w21 ⟨A21, c21, rfl, hcc2, hb21, ho21⟩; have p2a := p1e.trans (hb21.mono p1e.size))
          | (go_at_call 21; have hz := p2a; clear hz; refine (HRD.out A21 c21 _ ho21.bs).mono ?_; rintro e w22 ⟨g2, b2, rfl, hg2, hbk2, hr22, hb22⟩; have p2b := p2a.trans (hb22.mono p2a.size); have hG2 := Nat.le_trans p2a.size hg2; have H22 := Lib.hid hr22; clear hr22)
          | (go_at_call 24; refine (HR2.out g2 b2 _ H22.out).mono ?_; rintro e w23 ⟨A23, c23, rfl, ht23, hr23, ho23⟩; have p2c := p2b.trans (ho23.below hG2 p2b.size); have H23 := Lib.hid hr23; clear hr23)
          | (go_at_call 35; have hz := H23.out; clear hz; refine (Err_rdr g2 b2 _ _ _ H23.out).mono ?_; rintro e w2x ⟨rfl, rfl⟩)
          | (go_at_call 13; refine (HC2.out z2 A23 c23 _ ht23.bs).mono ?_; rintro e w24 ⟨A24, c24, rfl, hb24, ho24⟩; have p2d := p2c.trans (hb24.mono p2c.size); have H24 := Lib.hid (H23.out.below hb24))
          | (go_at_call 36; refine (HF2.out _ g2 b2 _ H24.out).mono ?_; rintro e w2y ⟨rfl, rfl⟩)
          | (go_at_call 12; refine (Same_yes A24 B2 S2 c24 _ (l.take S2) _ ho24.bs (K2.out _ _ (HB.out.below p2d)) (by omega)).mono ?_; rintro e w25 ⟨rfl, m2, rfl⟩; have p2e := below_drewN p2d m2)
          | (go_at_call 14; have hz := p0; clear hz; refine (HOW.out _ (HB.out.below p0)).mono ?_; rintro e w11 ⟨A11, c11, rfl, hcc1, hb11, ho11⟩; have p1a := p0.trans (hb11.mono p0.size))
          | (go_at_call 21; have hz := p1a; clear hz; refine (HRD.out A11 c11 _ ho11.bs).mono ?_; rintro e w12 ⟨g1, b1, rfl, hg1, hbk1, hr12, hb12⟩; have p1b := p1a.trans (hb12.mono p1a.size); have hG1 := Nat.le_trans p1a.size hg1; have H12 := Lib.hid hr12; clear hr12)
          | (go_at_call 22; refine (HR1.out g1 b1 _ H12.out).mono ?_; rintro e w13 ⟨rfl, hr13, ho13⟩; have p1c := p1b.trans (ho13.below hG1 p1b.size); have H13 := Lib.hid hr13; clear hr13)
          | (go_at_call 35; have hz := H13.out; clear hz; refine (Err_rdr g1 b1 _ _ _ H13.out).mono ?_; rintro e w1x ⟨rfl, rfl⟩)
          | (go_at_call 16; refine (HC1.out z1 _).mono ?_; rintro e w14 ⟨A14, c14, rfl, hb14, ho14⟩; have p1d := p1c.trans (hb14.mono p1c.size); have H14 := Lib.hid (H13.out.below hb14))
          | (go_at_call 36; refine (HF1.out _ g1 b1 _ H14.out).mono ?_; rintro e w1y ⟨rfl, rfl⟩)
          | (go_at_call 12; refine (Same_yes A14 B1 S1 c14 _ (l.take S1) _ ho14.bs (K1.out _ _ (HB.out.below p1d)) (by omega)).mono ?_; rintro e w15 ⟨rfl, m1, rfl⟩; have p1e := below_drewN p1d m1)
          | (go_at_call 11; refine (awake_any _).mono ?_; rintro e w9 ⟨rfl, hb9⟩))
        go_ret
        exact ⟨rfl, p3e.trans (hb9.mono p3e.size)⟩
      · have p0 := Below.refl w.heap.size w
        subst z1
        have z1 : (0 : Int) = 0 := rfl
        subst z2
        have z2 : (0 : Int) = 0 := rfl
        have y3 : (E3 == 0) = false := by simp [z3]
        have y3' : (E3 != 0) = true := bne0 z3
        have hzz := HZ.out z3
        subst hzz
        have Z1 := Lib.hid (True.intro)
        go_enter Try.func6, Try.ntmps6
        go_wp2_with (first
          | (go_at_call 14; have hz := p2e; clear hz; refine (HOW.out _ (HB.out.below p2e)).mono ?_; rintro e w31 ⟨A31, c31, rfl, hcc3, hb31, ho31⟩; have p3a := p2e.trans (hb31.mono p2e.size))
          | (go_at_call 21; have hz := p3a; clear hz; refine (HRD.out A31 c31 _ ho31.bs).mono ?_; rintro e w32 ⟨g3, b3, rfl, hg3, hbk3, hr32, hb32⟩; have p3b := p3a.trans (hb32.mono p3a.size); have hG3 := Nat.le_trans p3a.size hg3; have H32 := Lib.hid hr32; clear hr32)
          | (go_at_call 27; refine (HR3.out g3 b3 _ H32.out).mono ?_; rintro e w33 ⟨A33, c33, rfl, ht33, hr33, ho33⟩; have p3c := p3b.trans (ho33.below hG3 p3b.size); have H33 := Lib.hid hr33; clear hr33)
          | (go_at_call 35; have hz := H33.out; clear hz; refine (Err_rdr g3 b3 _ _ _ H33.out).mono ?_; rintro e w3x ⟨rfl, rfl⟩)
          | (go_at_call 36; refine (HF3.out _ g3 b3 _ H33.out).mono ?_; rintro e w3y ⟨rfl, rfl⟩)
          | (go_at_call 14; have hz := p1e; clear hz; refine (HOW.out _ (HB.out.below p1e)).mono ?_; rintro e w21 ⟨A21, c21, rfl, hcc2, hb21, ho21⟩; have p2a := p1e.trans (hb21.mono p1e.size))
          | (go_at_call 21; have hz := p2a; clear hz; refine (HRD.out A21 c21 _ ho21.bs).mono ?_; rintro e w22 ⟨g2, b2, rfl, hg2, hbk2, hr22, hb22⟩; have p2b := p2a.trans (hb22.mono p2a.size); have hG2 := Nat.le_trans p2a.size hg2; have H22 := Lib.hid hr22; clear hr22)
          | (go_at_call 24; refine (HR2.out g2 b2 _ H22.out).mono ?_; rintro e w23 ⟨A23, c23, rfl, ht23, hr23, ho23⟩; have p2c := p2b.trans (ho23.below hG2 p2b.size); have H23 := Lib.hid hr23; clear hr23)
          | (go_at_call 35; have hz := H23.out; clear hz; refine (Err_rdr g2 b2 _ _ _ H23.out).mono ?_; rintro e w2x ⟨rfl, rfl⟩)
          | (go_at_call 13; refine (HC2.out z2 A23 c23 _ ht23.bs).mono ?_; rintro e w24 ⟨A24, c24, rfl, hb24, ho24⟩; have p2d := p2c.trans (hb24.mono p2c.size); have H24 := Lib.hid (H23.out.below hb24))
          | (go_at_call 36; refine (HF2.out _ g2 b2 _ H24.out).mono ?_; rintro e w2y ⟨rfl, rfl⟩)
          | (go_at_call 12; refine (Same_yes A24 B2 S2 c24 _ (l.take S2) _ ho24.bs (K2.out _ _ (HB.out.below p2d)) (by omega)).mono ?_; rintro e w25 ⟨rfl, m2, rfl⟩; have p2e := below_drewN p2d m2)
          | (go_at_call 14; have hz := p0; clear hz; refine (HOW.out _ (HB.out.below p0)).mono ?_; rintro e w11 ⟨A11, c11, rfl, hcc1, hb11, ho11⟩; have p1a := p0.trans (hb11.mono p0.size))
          | (go_at_call 21; have hz := p1a; clear hz; refine (HRD.out A11 c11 _ ho11.bs).mono ?_; rintro e w12 ⟨g1, b1, rfl, hg1, hbk1, hr12, hb12⟩; have p1b := p1a.trans (hb12.mono p1a.size); have hG1 := Nat.le_trans p1a.size hg1; have H12 := Lib.hid hr12; clear hr12)
          | (go_at_call 22; refine (HR1.out g1 b1 _ H12.out).mono ?_; rintro e w13 ⟨rfl, hr13, ho13⟩; have p1c := p1b.trans (ho13.below hG1 p1b.size); have H13 := Lib.hid hr13; clear hr13)
          | (go_at_call 35; have hz := H13.out; clear hz; refine (Err_rdr g1 b1 _ _ _ H13.out).mono ?_; rintro e w1x ⟨rfl, rfl⟩)
          | (go_at_call 16; refine (HC1.out z1 _).mono ?_; rintro e w14 ⟨A14, c14, rfl, hb14, ho14⟩; have p1d := p1c.trans (hb14.mono p1c.size); have H14 := Lib.hid (H13.out.below hb14))
          | (go_at_call 36; refine (HF1.out _ g1 b1 _ H14.out).mono ?_; rintro e w1y ⟨rfl, rfl⟩)
          | (go_at_call 12; refine (Same_yes A14 B1 S1 c14 _ (l.take S1) _ ho14.bs (K1.out _ _ (HB.out.below p1d)) (by omega)).mono ?_; rintro e w15 ⟨rfl, m1, rfl⟩; have p1e := below_drewN p1d m1)
          | (go_at_call 11; refine (awake_any _).mono ?_; rintro e w9 ⟨rfl, hb9⟩))
        go_ret
        exact ⟨rfl, p3c.trans (hb9.mono p3c.size)⟩
    · by_cases z3 : E3 = 0
      · have p0 := Below.refl w.heap.size w
        subst z1
        have z1 : (0 : Int) = 0 := rfl
        have y2 : (E2 == 0) = false := by simp [z2]
        subst z3
        have z3 : (0 : Int) = 0 := rfl
        have Z1 := Lib.hid (True.intro)
        go_enter Try.func6, Try.ntmps6
        go_wp2_with (first
          | (go_at_call 14; have hz := p2c; clear hz; refine (HOW.out _ (HB.out.below p2c)).mono ?_; rintro e w31 ⟨A31, c31, rfl, hcc3, hb31, ho31⟩; have p3a := p2c.trans (hb31.mono p2c.size))
          | (go_at_call 21; have hz := p3a; clear hz; refine (HRD.out A31 c31 _ ho31.bs).mono ?_; rintro e w32 ⟨g3, b3, rfl, hg3, hbk3, hr32, hb32⟩; have p3b := p3a.trans (hb32.mono p3a.size); have hG3 := Nat.le_trans p3a.size hg3; have H32 := Lib.hid hr32; clear hr32)
          | (go_at_call 27; refine (HR3.out g3 b3 _ H32.out).mono ?_; rintro e w33 ⟨A33, c33, rfl, ht33, hr33, ho33⟩; have p3c := p3b.trans (ho33.below hG3 p3b.size); have H33 := Lib.hid hr33; clear hr33)
          | (go_at_call 35; have hz := H33.out; clear hz; refine (Err_rdr g3 b3 _ _ _ H33.out).mono ?_; rintro e w3x ⟨rfl, rfl⟩)
          | (go_at_call 18; refine (HC3.out z3 A33 c33 _ ht33.bss).mono ?_; rintro e w34 ⟨A34, c34, rfl, hb34, ho34⟩; have p3d := p3c.trans (hb34.mono p3c.size); have H34 := Lib.hid (H33.out.below hb34))
          | (go_at_call 36; refine (HF3.out _ g3 b3 _ H34.out).mono ?_; rintro e w3y ⟨rfl, rfl⟩)
          | (go_at_call 12; refine (Same_yes A34 B3 S3 c34 _ (l.take S3) _ ho34.bs (K3.out _ _ (HB.out.below p3d)) (by omega)).mono ?_; rintro e w35 ⟨rfl, m3, rfl⟩; have p3e := below_drewN p3d m3)
          | (go_at_call 14; have hz := p1e; clear hz; refine (HOW.out _ (HB.out.below p1e)).mono ?_; rintro e w21 ⟨A21, c21, rfl, hcc2, hb21, ho21⟩; have p2a := p1e.trans (hb21.mono p1e.size))
          | (go_at_call 21; have hz := p2a; clear hz; refine (HRD.out A21 c21 _ ho21.bs).mono ?_; rintro e w22 ⟨g2, b2, rfl, hg2, hbk2, hr22, hb22⟩; have p2b := p2a.trans (hb22.mono p2a.size); have hG2 := Nat.le_trans p2a.size hg2; have H22 := Lib.hid hr22; clear hr22)
          | (go_at_call 24; refine (HR2.out g2 b2 _ H22.out).mono ?_; rintro e w23 ⟨A23, c23, rfl, ht23, hr23, ho23⟩; have p2c := p2b.trans (ho23.below hG2 p2b.size); have H23 := Lib.hid hr23; clear hr23)
          | (go_at_call 35; have hz := H23.out; clear hz; refine (Err_rdr g2 b2 _ _ _ H23.out).mono ?_; rintro e w2x ⟨rfl, rfl⟩)
          | (go_at_call 14; have hz := p0; clear hz; refine (HOW.out _ (HB.out.below p0)).mono ?_; rintro e w11 ⟨A11, c11, rfl, hcc1, hb11, ho11⟩; have p1a := p0.trans (hb11.mono p0.size))
          | (go_at_call 21; have hz := p1a; clear hz; refine (HRD.out A11 c11 _ ho11.bs).mono ?_; rintro e w12 ⟨g1, b1, rfl, hg1, hbk1, hr12, hb12⟩; have p1b := p1a.trans (hb12.mono p1a.size); have hG1 := Nat.le_trans p1a.size hg1; have H12 := Lib.hid hr12; clear hr12)
          | (go_at_call 22; refine (HR1.out g1 b1 _ H12.out).mono ?_; rintro e w13 ⟨rfl, hr13, ho13⟩; have p1c := p1b.trans (ho13.below hG1 p1b.size); have H13 := Lib.hid hr13; clear hr13)
          | (go_at_call 35; have hz := H13.out; clear hz; refine (Err_rdr g1 b1 _ _ _ H13.out).mono ?_; rintro e w1x ⟨rfl, rfl⟩)
          | (go_at_call 16; refine (HC1.out z1 _).mono ?_; rintro e w14 ⟨A14, c14, rfl, hb14, ho14⟩; have p1d := p1c.trans (hb14.mono p1c.size); have H14 := Lib.hid (H13.out.below hb14))
          | (go_at_call 36; refine (HF1.out _ g1 b1 _ H14.out).mono ?_; rintro e w1y ⟨rfl, rfl⟩)
          | (go_at_call 12; refine (Same_yes A14 B1 S1 c14 _ (l.take S1) _ ho14.bs (K1.out _ _ (HB.out.below p1d)) (by omega)).mono ?_; rintro e w15 ⟨rfl, m1, rfl⟩; have p1e := below_drewN p1d m1)
          | (go_at_call 11; refine (awake_any _).mono ?_; rintro e w9 ⟨rfl, hb9⟩))
        go_ret
        exact ⟨rfl, p3e.trans (hb9.mono p3e.size)⟩
      · have p0 := Below.refl w.heap.size w
        subst z1
        have z1 : (0 : Int) = 0 := rfl
        have y2 : (E2 == 0) = false := by simp [z2]
        have y3 : (E3 == 0) = false := by simp [z3]
        have y3' : (E3 != 0) = true := bne0 z3
        have hzz := HZ.out z3
        subst hzz
        have Z1 := Lib.hid (True.intro)
        go_enter Try.func6, Try.ntmps6
        go_wp2_with (first
          | (go_at_call 14; have hz := p2c; clear hz; refine (HOW.out _ (HB.out.below p2c)).mono ?_; rintro e w31 ⟨A31, c31, rfl, hcc3, hb31, ho31⟩; have p3a := p2c.trans (hb31.mono p2c.size))
          | (go_at_call 21; have hz := p3a; clear hz; refine (HRD.out A31 c31 _ ho31.bs).mono ?_; rintro e w32 ⟨g3, b3, rfl, hg3, hbk3, hr32, hb32⟩; have p3b := p3a.trans (hb32.mono p3a.size); have hG3 := Nat.le_trans p3a.size hg3; have H32 := Lib.hid hr32; clear hr32)
          | (go_at_call 27; refine (HR3.out g3 b3 _ H32.out).mono ?_; rintro e w33 ⟨A33, c33, rfl, ht33, hr33, ho33⟩; have p3c := p3b.trans (ho33.below hG3 p3b.size); have H33 := Lib.hid hr33; clear hr33)
          | (go_at_call 35; have hz := H33.out; clear hz; refine (Err_rdr g3 b3 _ _ _ H33.out).mono ?_; rintro e w3x ⟨rfl, rfl⟩)
          | (go_at_call 36; refine (HF3.out _ g3 b3 _ H33.out).mono ?_; rintro e w3y ⟨rfl, rfl⟩)
          | (go_at_call 14; have hz := p1e; clear hz; refine (HOW.out _ (HB.out.below p1e)).mono ?_; rintro e w21 ⟨A21, c21, rfl, hcc2, hb21, ho21⟩; have p2a := p1e.trans (hb21.mono p1e.size))
          | (go_at_call 21; have hz := p2a; clear hz; refine (HRD.out A21 c21 _ ho21.bs).mono ?_; rintro e w22 ⟨g2, b2, rfl, hg2, hbk2, hr22, hb22⟩; have p2b := p2a.trans (hb22.mono p2a.size); have hG2 := Nat.le_trans p2a.size hg2; have H22 := Lib.hid hr22; clear hr22)
          | (go_at_call 24; refine (HR2.out g2 b2 _ H22.out).mono ?_; rintro e w23 ⟨A23, c23, rfl, ht23, hr23, ho23⟩; have p2c := p2b.trans (ho23.below hG2 p2b.size); have H23 := Lib.hid hr23; clear hr23)
          | (go_at_call 35; have hz := H23.out; clear hz; refine (Err_rdr g2 b2 _ _ _ H23.out).mono ?_; rintro e w2x ⟨rfl, rfl⟩)
          | (go_at_call 14; have hz := p0; clear hz; refine (HOW.out _ (HB.out.below p0)).mono ?_; rintro e w11 ⟨A11, c11, rfl, hcc1, hb11, ho11⟩; have p1a := p0.trans (hb11.mono p0.size))
          | (go_at_call 21; have hz := p1a; clear hz; refine (HRD.out A11 c11 _ ho11.bs).mono ?_; rintro e w12 ⟨g1, b1, rfl, hg1, hbk1, hr12, hb12⟩; have p1b := p1a.trans (hb12.mono p1a.size); have hG1 := Nat.le_trans p1a.size hg1; have H12 := Lib.hid hr12; clear hr12)
          | (go_at_call 22; refine (HR1.out g1 b1 _ H12.out).mono ?_; rintro e w13 ⟨rfl, hr13, ho13⟩; have p1c := p1b.trans (ho13.below hG1 p1b.size); have H13 := Lib.hid hr13; clear hr13)
          | (go_at_call 35; have hz := H13.out; clear hz; refine (Err_rdr g1 b1 _ _ _ H13.out).mono ?_; rintro e w1x ⟨rfl, rfl⟩)
          | (go_at_call 16; refine (HC1.out z1 _).mono ?_; rintro e w14 ⟨A14, c14, rfl, hb14, ho14⟩; have p1d := p1c.trans (hb14.mono p1c.size); have H14 := Lib.hid (H13.out.below hb14))
          | (go_at_call 36; refine (HF1.out _ g1 b1 _ H14.out).mono ?_; rintro e w1y ⟨rfl, rfl⟩)
          | (go_at_call 12; refine (Same_yes A14 B1 S1 c14 _ (l.take S1) _ ho14.bs (K1.out _ _ (HB.out.below p1d)) (by omega)).mono ?_; rintro e w15 ⟨rfl, m1, rfl⟩; have p1e := below_drewN p1d m1)
          | (go_at_call 11; refine (awake_any _).mono ?_; rintro e w9 ⟨rfl, hb9⟩))
        go_ret
        exact ⟨rfl, p3c.trans (hb9.mono p3c.size)⟩
  · by_cases z2 : E2 = 0
    · by_cases z3 : E3 = 0
      · have p0 := Below.refl w.heap.size w
        have y1 : (E1 == 0) = false := by simp [z1]
        subst z2
        have z2 : (0 : Int) = 0 := rfl
        subst z3
        have z3 : (0 : Int) = 0 := rfl
        have Z1 := Lib.hid (True.intro)
        go_enter Try.func6, Try.ntmps6
        go_wp2_with (first
          | (go_at_call 14; have hz := p2e; clear hz; refine (HOW.out _ (HB.out.below p2e)).mono ?_; rintro e w31 ⟨A31, c31, rfl, hcc3, hb31, ho31⟩; have p3a := p2e.trans (hb31.mono p2e.size))
          | (go_at_call 21; have hz := p3a; clear hz; refine (HRD.out A31 c31 _ ho31.bs).mono ?_; rintro e w32 ⟨g3, b3, rfl, hg3, hbk3, hr32, hb32⟩; have p3b := p3a.trans (hb32.mono p3a.size); have hG3 := Nat.le_trans p3a.size hg3; have H32 := Lib.hid hr32; clear hr32)
          | (go_at_call 27; refine (HR3.out g3 b3 _ H32.out).mono ?_; rintro e w33 ⟨A33, c33, rfl, ht33, hr33, ho33⟩; have p3c := p3b.trans (ho33.below hG3 p3b.size); have H33 := Lib.hid hr33; clear hr33)
          | (go_at_call 35; have hz := H33.out; clear hz; refine (Err_rdr g3 b3 _ _ _ H33.out).mono ?_; rintro e w3x ⟨rfl, rfl⟩)
          | (go_at_call 18; refine (HC3.out z3 A33 c33 _ ht33.bss).mono ?_; rintro e w34 ⟨A34, c34, rfl, hb34, ho34⟩; have p3d := p3c.trans (hb34.mono p3c.size); have H34 := Lib.hid (H33.out.below hb34))
          | (go_at_call 36; refine (HF3.out _ g3 b3 _ H34.out).mono ?_; rintro e w3y ⟨rfl, rfl⟩)
          | (go_at_call 12; refine (Same_yes A34 B3 S3 c34 _ (l.take S3) _ ho34.bs (K3.out _ _ (HB.out.below p3d)) (by omega)).mono ?_; rintro e w35 ⟨rfl, m3, rfl⟩; have p3e := below_drewN p3d m3)
          | (go_at_call 14; have hz := p1c; clear hz; refine (HOW.out _ (HB.out.below p1c)).mono ?_; rintro e w21 ⟨A21, c21, rfl, hcc2, hb21, ho21⟩; have p2a := p1c.trans (hb21.mono p1c.size))
          | (go_at_call 21; have hz := p2a; clear hz; refine (HRD.out A21 c21 _ ho21.bs).mono ?_; rintro e w22 ⟨g2, b2, rfl, hg2, hbk2, hr22, hb22⟩; have p2b := p2a.trans (hb22.mono p2a.size); have hG2 := Nat.le_trans p2a.size hg2; have H22 := Lib.hid hr22; clear hr22)
          | (go_at_call 24; refine (HR2.out g2 b2 _ H22.out).mono ?_; rintro e w23 ⟨A23, c23, rfl, ht23, hr23, ho23⟩; have p2c := p2b.trans (ho23.below hG2 p2b.size); have H23 := Lib.hid hr23; clear hr23)
          | (go_at_call 35; have hz := H23.out; clear hz; refine (Err_rdr g2 b2 _ _ _ H23.out).mono ?_; rintro e w2x ⟨rfl, rfl⟩)
          | (go_at_call 13; refine (HC2.out z2 A23 c23 _ ht23.bs).mono ?_; rintro e w24 ⟨A24, c24, rfl, hb24, ho24⟩; have p2d := p2c.trans (hb24.mono p2c.size); have H24 := Lib.hid (H23.out.below hb24))
          | (go_at_call 36; refine (HF2.out _ g2 b2 _ H24.out).mono ?_; rintro e w2y ⟨rfl, rfl⟩)
          | (go_at_call 12; refine (Same_yes A24 B2 S2 c24 _ (l.take S2) _ ho24.bs (K2.out _ _ (HB.out.below p2d)) (by omega)).mono ?_; rintro e w25 ⟨rfl, m2, rfl⟩; have p2e := below_drewN p2d m2)
          | (go_at_call 14; have hz := p0; clear hz; refine (HOW.out _ (HB.out.below p0)).mono ?_; rintro e w11 ⟨A11, c11, rfl, hcc1, hb11, ho11⟩; have p1a := p0.trans (hb11.mono p0.size))
          | (go_at_call 21; have hz := p1a; clear hz; refine (HRD.out A11 c11 _ ho11.bs).mono ?_; rintro e w12 ⟨g1, b1, rfl, hg1, hbk1, hr12, hb12⟩; have p1b := p1a.trans (hb12.mono p1a.size); have hG1 := Nat.le_trans p1a.size hg1; have H12 := Lib.hid hr12; clear hr12)
          | (go_at_call 22; refine (HR1.out g1 b1 _ H12.out).mono ?_; rintro e w13 ⟨rfl, hr13, ho13⟩; have p1c := p1b.trans (ho13.below hG1 p1b.size); have H13 := Lib.hid hr13; clear hr13)
          | (go_at_call 35; have hz := H13.out; clear hz; refine (Err_rdr g1 b1 _ _ _ H13.out).mono ?_; rintro e w1x ⟨rfl, rfl⟩)
          | (go_at_call 11; refine (awake_any _).mono ?_; rintro e w9 ⟨rfl, hb9⟩))
        go_ret
        exact ⟨rfl, p3e.trans (hb9.mono p3e.size)⟩
      · have p0 := Below.refl w.heap.size w
        have y1 : (E1 == 0) = false := by simp [z1]
        subst z2
        have z2 : (0 : Int) = 0 := rfl
        have y3 : (E3 == 0) = false := by simp [z3]
        have y3' : (E3 != 0) = true := bne0 z3
        have hzz := HZ.out z3
        subst hzz
        have Z1 := Lib.hid (True.intro)
        go_enter Try.func6, Try.ntmps6
        go_wp2_with (first
          | (go_at_call 14; have hz := p2e; clear hz; refine (HOW.out _ (HB.out.below p2e)).mono ?_; rintro e w31 ⟨A31, c31, rfl, hcc3, hb31, ho31⟩; have p3a := p2e.trans (hb31.mono p2e.size))
          | (go_at_call 21; have hz := p3a; clear hz; refine (HRD.out A31 c31 _ ho31.bs).mono ?_; rintro e w32 ⟨g3, b3, rfl, hg3, hbk3, hr32, hb32⟩; have p3b := p3a.trans (hb32.mono p3a.size); have hG3 := Nat.le_trans p3a.size hg3; have H32 := Lib.hid hr32; clear hr32)
          | (go_at_call 27; refine (HR3.out g3 b3 _ H32.out).mono ?_; rintro e w33 ⟨A33, c33, rfl, ht33, hr33, ho33⟩; have p3c := p3b.trans (ho33.below hG3 p3b.size); have H33 := Lib.hid hr33; clear hr33)
          | (go_at_call 35; have hz := H33.out; clear hz; refine (Err_rdr g3 b3 _ _ _ H33.out).mono ?_; rintro e w3x ⟨rfl, rfl⟩)
          | (go_at_call 36; refine (HF3.out _ g3 b3 _ H33.out).mono ?_; rintro e w3y ⟨rfl, rfl⟩)
          | (go_at_call 14; have hz := p1c; clear hz; refine (HOW.out _ (HB.out.below p1c)).mono ?_; rintro e w21 ⟨A21, c21, rfl, hcc2, hb21, ho21⟩; have p2a := p1c.trans (hb21.mono p1c.size))
          | (go_at_call 21; have hz := p2a; clear hz; refine (HRD.out A21 c21 _ ho21.bs).mono ?_; rintro e w22 ⟨g2, b2, rfl, hg2, hbk2, hr22, hb22⟩; have p2b := p2a.trans (hb22.mono p2a.size); have hG2 := Nat.le_trans p2a.size hg2; have H22 := Lib.hid hr22; clear hr22)
          | (go_at_call 24; refine (HR2.out g2 b2 _ H22.out).mono ?_; rintro e w23 ⟨A23, c23, rfl, ht23, hr23, ho23⟩; have p2c := p2b.trans (ho23.below hG2 p2b.size); have H23 := Lib.hid hr23; clear hr23)
          | (go_at_call 35; have hz := H23.out; clear hz; refine (Err_rdr g2 b2 _ _ _ H23.out).mono ?_; rintro e w2x ⟨rfl, rfl⟩)
          | (go_at_call 13; refine (HC2.out z2 A23 c23 _ ht23.bs).mono ?_; rintro e w24 ⟨A24, c24, rfl, hb24, ho24⟩; have p2d := p2c.trans (hb24.mono p2c.size); have H24 := Lib.hid (H23.out.below hb24))
          | (go_at_call 36; refine (HF2.out _ g2 b2 _ H24.out).mono ?_; rintro e w2y ⟨rfl, rfl⟩)
          | (go_at_call 12; refine (Same_yes A24 B2 S2 c24 _ (l.take S2) _ ho24.bs (K2.out _ _ (HB.out.below p2d)) (by omega)).mono ?_; rintro e w25 ⟨rfl, m2, rfl⟩; have p2e := below_drewN p2d m2)
          | (go_at_call 14; have hz := p0; clear hz; refine (HOW.out _ (HB.out.below p0)).mono ?_; rintro e w11 ⟨A11, c11, rfl, hcc1, hb11, ho11⟩; have p1a := p0.trans (hb11.mono p0.size))
          | (go_at_call 21; have hz := p1a; clear hz; refine (HRD.out A11 c11 _ ho11.bs).mono ?_; rintro e w12 ⟨g1, b1, rfl, hg1, hbk1, hr12, hb12⟩; have p1b := p1a.trans (hb12.mono p1a.size); have hG1 := Nat.le_trans p1a.size hg1; have H12 := Lib.hid hr12; clear hr12)
          | (go_at_call 22; refine (HR1.out g1 b1 _ H12.out).mono ?_; rintro e w13 ⟨rfl, hr13, ho13⟩; have p1c := p1b.trans (ho13.below hG1 p1b.size); have H13 := Lib.hid hr13; clear hr13)
          | (go_at_call 35; have hz := H13.out; clear hz; refine (Err_rdr g1 b1 _ _ _ H13.out).mono ?_; rintro e w1x ⟨rfl, rfl⟩)
          | (go_at_call 11; refine (awake_any _).mono ?_; rintro e w9 ⟨rfl, hb9⟩))
        go_ret
        exact ⟨rfl, p3c.trans (hb9.mono p3c.size)⟩
    · by_cases z3 : E3 = 0
      · have p0 := Below.refl w.heap.size w
        have y1 : (E1 == 0) = false := by simp [z1]
        have y2 : (E2 == 0) = false := by simp [z2]
        subst z3
        have z3 : (0 : Int) = 0 := rfl
        have Z1 := Lib.hid (True.intro)
        go_enter Try.func6, Try.ntmps6
        go_wp2_with (first
          | (go_at_call 14; have hz := p2c; clear hz; refine (HOW.out _ (HB.out.below p2c)).mono ?_; rintro e w31 ⟨A31, c31, rfl, hcc3, hb31, ho31⟩; have p3a := p2c.trans (hb31.mono p2c.size))
          | (go_at_call 21; have hz := p3a; clear hz; refine (HRD.out A31 c31 _ ho31.bs).mono ?_; rintro e w32 ⟨g3, b3, rfl, hg3, hbk3, hr32, hb32⟩; have p3b := p3a.trans (hb32.mono p3a.size); have hG3 := Nat.le_trans p3a.size hg3; have H32 := Lib.hid hr32; clear hr32)
          | (go_at_call 27; refine (HR3.out g3 b3 _ H32.out).mono ?_; rintro e w33 ⟨A33, c33, rfl, ht33, hr33, ho33⟩; have p3c := p3b.trans (ho33.below hG3 p3b.size); have H33 := Lib.hid hr33; clear hr33)
          | (go_at_call 35; have hz := H33.out; clear hz; refine (Err_rdr g3 b3 _ _ _ H33.out).mono ?_; rintro e w3x ⟨rfl, rfl⟩)
          | (go_at_call 18; refine (HC3.out z3 A33 c33 _ ht33.bss).mono ?_; rintro e w34 ⟨A34, c34, rfl, hb34, ho34⟩; have p3d := p3c.trans (hb34.mono p3c.size); have H34 := Lib.hid (H33.out.below hb34))
          | (go_at_call 36; refine (HF3.out _ g3 b3 _ H34.out).mono ?_; rintro e w3y ⟨rfl, rfl⟩)
          | (go_at_call 12; refine (Same_yes A34 B3 S3 c34 _ (l.take S3) _ ho34.bs (K3.out _ _ (HB.out.below p3d)) (by omega)).mono ?_; rintro e w35 ⟨rfl, m3, rfl⟩; have p3e := below_drewN p3d m3)
          | (go_at_call 14; have hz := p1c; clear hz; refine (HOW.out _ (HB.out.below p1c)).mono ?_; rintro e w21 ⟨A21, c21, rfl, hcc2, hb21, ho21⟩; have p2a := p1c.trans (hb21.mono p1c.size))
          | (go_at_call 21; have hz := p2a; clear hz; refine (HRD.out A21 c21 _ ho21.bs).mono ?_; rintro e w22 ⟨g2, b2, rfl, hg2, hbk2, hr22, hb22⟩; have p2b := p2a.trans (hb22.mono p2a.size); have hG2 := Nat.le_trans p2a.size hg2; have H22 := Lib.hid hr22; clear hr22)
          | (go_at_call 24; refine (HR2.out g2 b2 _ H22.out).mono ?_; rintro e w23 ⟨A23, c23, rfl, ht23, hr23, ho23⟩; have p2c := p2b.trans (ho23.below hG2 p2b.size); have H23 := Lib.hid hr23; clear hr23)
          | (go_at_call 35; have hz := H23.out; clear hz; refine (Err_rdr g2 b2 _ _ _ H23.out).mono ?_; rintro e w2x ⟨rfl, rfl⟩)
          | (go_at_call 14; have hz := p0; clear hz; refine (HOW.out _ (HB.out.below p0)).mono ?_; rintro e w11 ⟨A11, c11, rfl, hcc1, hb11, ho11⟩; have p1a := p0.trans (hb11.mono p0.size))
          | (go_at_call 21; have hz := p1a; clear hz; refine (HRD.out A11 c11 _ ho11.bs).mono ?_; rintro e w12 ⟨g1, b1, rfl, hg1, hbk1, hr12, hb12⟩; have p1b := p1a.trans (hb12.mono p1a.size); have hG1 := Nat.le_trans p1a.size hg1; have H12 := Lib.hid hr12; clear hr12)
          | (go_at_call 22; refine (HR1.out g1 b1 _ H12.out).mono ?_; rintro e w13 ⟨rfl, hr13, ho13⟩; have p1c := p1b.trans (ho13.below hG1 p1b.size); have H13 := Lib.hid hr13; clear hr13)
          | (go_at_call 35; have hz := H13.out; clear hz; refine (Err_rdr g1 b1 _ _ _ H13.out).mono ?_; rintro e w1x ⟨rfl, rfl⟩)
          | (go_at_call 11; refine (awake_any _).mono ?_; rintro e w9 ⟨rfl, hb9⟩))
        go_ret
        exact ⟨rfl, p3e.trans (hb9.mono p3e.size)⟩
      · have p0 := Below.refl w.heap.size w
        have y1 : (E1 == 0) = false := by simp [z1]
        have y2 : (E2 == 0) = false := by simp [z2]
        have y3 : (E3 == 0) = false := by simp [z3]
        have y3' : (E3 != 0) = true := bne0 z3
        have hzz := HZ.out z3
        subst hzz
        have Z1 := Lib.hid (True.intro)
        go_enter Try.func6, Try.ntmps6
        go_wp2_with (first
          | (go_at_call 14; have hz := p2c; clear hz; refine (HOW.out _ (HB.out.below p2c)).mono ?_; rintro e w31 ⟨A31, c31, rfl, hcc3, hb31, ho31⟩; have p3a := p2c.trans (hb31.mono p2c.size))
          | (go_at_call 21; have hz := p3a; clear hz; refine (HRD.out A31 c31 _ ho31.bs).mono ?_; rintro e w32 ⟨g3, b3, rfl, hg3, hbk3, hr32, hb32⟩; have p3b := p3a.trans (hb32.mono p3a.size); have hG3 := Nat.le_trans p3a.size hg3; have H32 := Lib.hid hr32; clear hr32)
          | (go_at_call 27; refine (HR3.out g3 b3 _ H32.out).mono ?_; rintro e w33 ⟨A33, c33, rfl, ht33, hr33, ho33⟩; have p3c := p3b.trans (ho33.below hG3 p3b.size); have H33 := Lib.hid hr33; clear hr33)
          | (go_at_call 35; have hz := H33.out; clear hz; refine (Err_rdr g3 b3 _ _ _ H33.out).mono ?_; rintro e w3x ⟨rfl, rfl⟩)
          | (go_at_call 36; refine (HF3.out _ g3 b3 _ H33.out).mono ?_; rintro e w3y ⟨rfl, rfl⟩)
          | (go_at_call 14; have hz := p1c; clear hz; refine (HOW.out _ (HB.out.below p1c)).mono ?_; rintro e w21 ⟨A21, c21, rfl, hcc2, hb21, ho21⟩; have p2a := p1c.trans (hb21.mono p1c.size))
          | (go_at_call 21; have hz := p2a; clear hz; refine (HRD.out A21 c21 _ ho21.bs).mono ?_; rintro e w22 ⟨g2, b2, rfl, hg2, hbk2, hr22, hb22⟩; have p2b := p2a.trans (hb22.mono p2a.size); have hG2 := Nat.le_trans p2a.size hg2; have H22 := Lib.hid hr22; clear hr22)
          | (go_at_call 24; refine (HR2.out g2 b2 _ H22.out).mono ?_; rintro e w23 ⟨A23, c23, rfl, ht23, hr23, ho23⟩; have p2c := p2b.trans (ho23.below hG2 p2b.size); have H23 := Lib.hid hr23; clear hr23)
          | (go_at_call 35; have hz := H23.out; clear hz; refine (Err_rdr g2 b2 _ _ _ H23.out).mono ?_; rintro e w2x ⟨rfl, rfl⟩)
          | (go_at_call 14; have hz := p0; clear hz; refine (HOW.out _ (HB.out.below p0)).mono ?_; rintro e w11 ⟨A11, c11, rfl, hcc1, hb11, ho11⟩; have p1a := p0.trans (hb11.mono p0.size))
          | (go_at_call 21; have hz := p1a; clear hz; refine (HRD.out A11 c11 _ ho11.bs).mono ?_; rintro e w12 ⟨g1, b1, rfl, hg1, hbk1, hr12, hb12⟩; have p1b := p1a.trans (hb12.mono p1a.size); have hG1 := Nat.le_trans p1a.size hg1; have H12 := Lib.hid hr12; clear hr12)
          | (go_at_call 22; refine (HR1.out g1 b1 _ H12.out).mono ?_; rintro e w13 ⟨rfl, hr13, ho13⟩; have p1c := p1b.trans (ho13.below hG1 p1b.size); have H13 := Lib.hid hr13; clear hr13)
          | (go_at_call 35; have hz := H13.out; clear hz; refine (Err_rdr g1 b1 _ _ _ H13.out).mono ?_; rintro e w1x ⟨rfl, rfl⟩)
          | (go_at_call 11; refine (awake_any _).mono ?_; rintro e w9 ⟨rfl, hb9⟩))
        go_ret
        exact ⟨rfl, p3c.trans (hb9.mono p3c.size)⟩

set_option maxRecDepth 100000 in
theorem lifted (os : Os) (started : os.Started) (H : Type) (enc : TypeId × Value → H) :
    ReturnsInHanded {} Try.checked os 6 .any (Rows.wireOneSpec.pre6 enc Try.prog Try.f6 Rows.wireOneRow.domain false) (Rows.wireOneSpec.post enc Try.prog Try.f6 false true false false) := by
  refine returnsInHanded_of_change_sized (C := Try.checked) own started (by kernel_rfl) Try.func6
    (ChangeSpec.witness6 (enc := enc) (C := Try.checked) false ⟨#[], #[.slice none 0 0], []⟩ 8 (by kernel_rfl) (by kernel_rfl) (by kernel_rfl) (by kernel_rfl)) ?_
  intro W base args ds gs before hval0 hW hcnd hsz0 _
  have hval : ∀ (j : Nat) t v, Try.f6.params[j]? = some t → args[j]? = some v → Value.okWide Try.prog W .any base t v := hval0
  have hW' := hW
  obtain ⟨p, q, hA0, hV, rfl, hfz, hnd⟩ := hW
  have hA : DataW.TrodAll enc Try.prog W 0 (fun _ => true) true Try.f6.params.toList args.toList ds p := hA0
  have hsz : (DataW.weightsEach Try.prog (Try.f6.params.toList ++ Rows.wireOneSpec.plain.varTypes Try.prog) (ds ++ gs)).all (· ≤ reachBytes) = true := hsz0
  rw [Try.params6] at hA hval hsz
  obtain ⟨v0, vs0, d0, ds0, p0, q0, hargs, rfl, rfl, h0, r0⟩ := trodAll_cons hA
  obtain ⟨rfl, rfl, rfl⟩ := trodAll_nil r0
  obtain rfl : args = #[v0] := by cases args; simp_all
  obtain ⟨rfl, rfl⟩ := trodVars_none hV
  have k0 := h0
  have lt0 : ∀ x ∈ p0, x.block < W.heap.size := by obtain ⟨m, hm⟩ := k0; exact DataW.trod_lt m _ _ _ hm
  obtain ⟨a0, len0, cap0, rfl⟩ := okWide_slice Try.underlying27 (hval 0 27 v0 rfl rfl)
  obtain ⟨l0, w0, s0⟩ : ∃ l, Bs W a0 len0 l ∧ len0 ≤ cap0 ∧ cap0 ≤ 140737488351232 := by
    obtain ⟨fuel, hf⟩ := h0
    rcases open_ints Try.underlying27 Try.underlying5 (by kernel_rfl) hf with ⟨hcs, _⟩ | ⟨x, l, c, zs, hcs, _, hl, hm, hz, hx, hcell, hwz⟩
    · simp [Value.cells] at hcs
      obtain ⟨rfl, rfl, rfl⟩ := hcs
      exact ⟨[], Bs.nil _ _, by omega, by omega⟩
    · simp [Value.cells] at hcs
      obtain ⟨rfl, rfl, rfl⟩ := hcs
      simp only [Prod.mk.injEq] at hx
      obtain ⟨rfl, _⟩ := hx
      have hb := sized_slice hsz (j := 0) (t := 27) (e := 5) rfl rfl Try.underlying27
      rw [show Try.prog.bytesOf 5 = 1 from by kernel_rfl] at hb
      simp only [lits, List.length_map, List.length_take, List.length_drop, reachBytes] at hb
      have hz' : zs.length = cap0 := by simpa using hz
      exact ⟨_, Bs.of_ints hl hz' hcell hwz, hl, by omega⟩
  clear hA0 hval0
  refine (walk W a0 len0 cap0 l0 w0 s0).mono fun e W' ⟨he, bel⟩ => ?_
  subst he
  exact ⟨_, rfl, _, _, _, [], _, [], hW', trodAll_mk1 (shut_bool Try.underlying4 _), (trodAll_cons_mk (Below.trod laidOut (by kernel_rfl) (of_decide_eq_true (by kernel_rfl)) k0 bel lt0) trodAll_mk0), rfl, bel.frame _, fun h => by cases h⟩
theorem over : Rows.wireOneRow.holds Try.pinned (OpenSpec.ofChange Rows.wireOneSpec) :=
  OpenClaim.holds_of_wide 6 Try.f6 rfl rfl rfl rfl rfl rfl rfl ⟨rfl, rfl, rfl, rfl, rfl⟩ rfl rfl rfl rfl rfl (by kernel_rfl) Try.func6 (by kernel_rfl)
    (of_decide_eq_true (by kernel_rfl)) (by unfold Func.isWrapper; first | (rw [if_pos (by decide +kernel)]; kernel_rfl) | (rw [if_neg (by decide +kernel)]; exact ⟨rfl, rfl⟩))
    (fun os started H enc _ => lifted os started H enc)
theorem wireOne_holds : Rows.WireOneSaid := over
#print axioms wireOne_holds
end Go.Proofs.Ytjifahocfbbicaa.wireOne
