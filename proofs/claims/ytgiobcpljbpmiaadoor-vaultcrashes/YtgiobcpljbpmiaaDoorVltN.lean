/-
  The document's example: awake. A nil vault, and a nil tape.
-/
import Derived.Test.YtgiobcpljbpmiaaDoorVltM
namespace Go.Proofs.YtgiobcpljbpmiaaDoor
open Go.RowKit
theorem vFr_small {a : Nat × List UInt8} (h : a.1 ≤ 1099511627776) (h5 : a.2.length ≤ 500) : (vFr a).length ≤ 600 := by
  have h1 := wide8 (N := a.1) (by omega)
  have h2 := wide8 (N := a.2.length) (by omega)
  have h3 : (vRec a.1 a.2).length ≤ 518 := by rw [vRec_length]; omega
  have h4 := wide8 (N := (vRec a.1 a.2).length) (by omega)
  unfold vFr
  rw [frB_length]
  omega
theorem AddR.ok {w w' : World} {v g : Nat} {P : Nat → Prop} {S : Tp} {V : Vs} {t : List UInt8} {e : Ending} (h : AddR w v g P S V t e w') (hl : S.live) (hf : (S.cont 0).length + (vFr (V.gen, t)).length ≤ 1048576) :
    e = .returned (.int .i64 0) ∧ Off P w w' ∧ ∃ P' S', Grows w P P' ∧ VT w' v g P' S' (V.add t) ∧ S'.cont = put S.cont 0 (S.cont 0 ++ vFr (V.gen, t)) ∧ S'.live := by
  obtain ⟨ho, P', hg, ⟨he, S', h1, h2, h3⟩ | ⟨_, _, h2⟩ | ⟨_, h2, _⟩⟩ := h
  · exact ⟨he, ho, P', S', hg, h1, h2, h3 hl⟩
  · omega
  · exact absurd hl h2
theorem SaveR.ok {w w' : World} {v g : Nat} {P : Nat → Prop} {S : Tp} {V : Vs} {t : List UInt8} {e : Ending} (h : SaveR w v g P S V t e w') (hl : S.live) :
    e = .returned (.int .i64 0) ∧ Off P w w' ∧ ∃ P' S', Grows w P P' ∧ VT w' v g P' S' (V.save t) ∧ S'.cont = put (put S.cont (slotNo (V.gen + 1)) (vFr (V.gen + 1, t))) 0 [] ∧ S'.live := by
  obtain ⟨ho, P', hg, ⟨he, S', h1, h2, h3⟩ | ⟨_, h2, _⟩⟩ := h
  · exact ⟨he, ho, P', S', hg, h1, h2, h3 hl⟩
  · exact absurd hl h2
theorem OpenR.ok {w w' : World} {g n : Nat} {P : Nat → Prop} {S : Tp} {V : Vs} {e : Ending} (h : OpenR w g P S V n e w') (hl : S.live) :
    ∃ v, e = .returned (.tuple #[.pointer (some ⟨v, 0, none⟩), .int .i64 0]) ∧ Off P w w' ∧ ∃ P' S', Grows w P P' ∧ VT w' v g P' S' V ∧ S'.cont = put S.cont 0 ((S.cont 0).take n) ∧ S'.live := by
  obtain ⟨ho, P', hg, ⟨v, S', he, h1, h2, h3⟩ | ⟨_, _, h2, _⟩⟩ := h
  · exact ⟨v, he, ho, P', S', hg, h1, h2, h3 hl⟩
  · exact absurd hl h2
theorem crash_cont {S : Tp} (h : S.ok 0) (kept : List Int) : (S.crash kept).cont = S.cont := by
  have hS : S.Sure := fun i => List.eq_nil_of_length_eq_zero (Nat.le_zero.1 (h i).2)
  obtain ⟨m, m1, m2⟩ := cont_crash (S := S) (X := S) hS 0 (S.f 0) (by rw [upd_eta]) kept
  rw [hS 0, List.take_nil, play_nil, ← hS.now 0, put_eta] at m2
  exact m2
/-- a vault on a new tape -/
theorem VFirst (w : World) (g : Nat) (P : Nat → Prop) (h : TP w g P Tp.new) (hTb : Tab 2 w) : Calls Tryd.prog 13 #[.pointer (some ⟨g, 0, none⟩)] w fun e w' => ∃ v, e = .returned (.tuple #[.pointer (some ⟨v, 0, none⟩), .int .i64 0]) ∧ Off P w w' ∧ ∃ P' S', Grows w P P' ∧ VT w' v g P' S' Vs.new ∧ (∀ i, S'.cont i = []) ∧ S'.live := by
  have hH : Has Tp.new.cont Vs.new 0 := by rw [cont_new]; exact Has.new
  refine (VOpen (S := Tp.new) g 0 P Vs.new w h (ok_new 0) rfl hTb hH).mono ?_
  intro e w' hr
  obtain ⟨v, he, ho, P', S', hg, hv, hc, hl⟩ := hr.ok live_new
  refine ⟨v, he, ho, P', S', hg, hv, fun i => ?_, hl⟩
  rw [hc, cont_new]
  unfold put
  split <;> simp
theorem litOne (w : World) (z : Int) (x : UInt8) (hz : z = (x.toNat : Int)) : Bs (w.alloc (.cells #[.int .u8 z] 5)) (some ⟨w.heap.size, 0, none⟩) 1 [x] :=
  litB w #[.int .u8 z] 1 [x] rfl rfl (by omega) (fun j y hj => by
    match j, hj with
    | 0, hj => simp at hj; subst hj; simp [hz])
theorem VAddLit {S : Tp} (z : Int) (x : UInt8) (hz : z = (x.toNat : Int)) (v g : Nat) (P : Nat → Prop) (V : Vs) (w : World) (h : VT w v g P S V) (hTb : Tab 2 w) (hl : S.live) (hg : V.gen ≤ 1000) (hc : (S.cont 0).length ≤ 1000) :
    Calls Tryd.prog 19 #[.pointer (some ⟨v, 0, none⟩), .slice (some ⟨w.heap.size, 0, none⟩) 1 1] (w.alloc (.cells #[.int .u8 z] 5)) fun e w' => e = .returned (.int .i64 0) ∧ Off P w w' ∧ ∃ P' S', Grows w P P' ∧ VT w' v g P' S' (V.add [x]) ∧ S'.cont = put S.cont 0 (S.cont 0 ++ vFr (V.gen, [x])) ∧ S'.live := by
  have hb : Below w.heap.size w (w.alloc (.cells #[.int .u8 z] 5)) := (Below.refl _ _).alloc (Nat.le_refl _) _
  refine (VAdd v g 1 1 (some ⟨w.heap.size, 0, none⟩) [x] P V _ (h.below hb) (hTb.below hb) (litOne w z x hz) (by omega) (by omega)).mono ?_
  intro e w' hr
  have hs := vFr_small (a := (V.gen, [x])) (by simp only; omega) (by simp)
  obtain ⟨he, ho, P', S', q1, q2, q3, q4⟩ := hr.ok hl (by omega)
  refine ⟨he, (Off.of_below hb).trans ho (fun x q => .inl q), P', S', fun b q => ?_, q2, q3, q4⟩
  rcases q1 b q with q | q
  · exact .inl q
  · exact .inr (Nat.le_trans hb.size q)
theorem VSaveLit {S : Tp} (z : Int) (x : UInt8) (hz : z = (x.toNat : Int)) (v g : Nat) (P : Nat → Prop) (V : Vs) (w : World) (h : VT w v g P S V) (hTb : Tab 2 w) (hl : S.live) (hg : V.gen ≤ 1000) :
    Calls Tryd.prog 22 #[.pointer (some ⟨v, 0, none⟩), .slice (some ⟨w.heap.size, 0, none⟩) 1 1] (w.alloc (.cells #[.int .u8 z] 5)) fun e w' => e = .returned (.int .i64 0) ∧ Off P w w' ∧ ∃ P' S', Grows w P P' ∧ VT w' v g P' S' (V.save [x]) ∧ (S'.cont 0 = []) ∧ S'.live := by
  have hb : Below w.heap.size w (w.alloc (.cells #[.int .u8 z] 5)) := (Below.refl _ _).alloc (Nat.le_refl _) _
  refine (VSave v g 1 1 (some ⟨w.heap.size, 0, none⟩) [x] P V _ (h.below hb) (hTb.below hb) (litOne w z x hz) (by omega) (by omega)).mono ?_
  intro e w' hr
  obtain ⟨he, ho, P', S', q1, q2, q3, q4⟩ := hr.ok hl
  refine ⟨he, (Off.of_below hb).trans ho (fun x q => .inl q), P', S', fun b q => ?_, q2, by rw [q3, put_same], q4⟩
  rcases q1 b q with q | q
  · exact .inl q
  · exact .inr (Nat.le_trans hb.size q)
theorem Tab.offP {P : Nat → Prop} {w w' : World} (h : Tab 2 w) (ho : Off P w w') (hP : ¬ P 2) : Tab 2 w' := h.off ho hP
/-- the vault's own calls that only read -/
theorem VGen {S : Tp} (v g : Nat) (P : Nat → Prop) (V : Vs) (w : World) (h : VT w v g P S V) : Calls Tryd.prog 24 #[.pointer (some ⟨v, 0, none⟩)] w fun e w' => e = .returned (.int .i64 (V.gen : Int)) ∧ w = w' := by
  obtain ⟨_, _, _, _, _, H, F, _, _, k3, _⟩ := h
  obtain ⟨A, n, c, B, k, d, hr, _⟩ := k3.rows
  exact Gen_row v _ _ w hr rfl
theorem Opened.small {j one two : List UInt8} {g n : Nat} {t : List UInt8} {R : List (List UInt8)} (h : Opened j one two g t R n) (hj : j.length ≤ 1048576) : (∀ x ∈ R, x.length ≤ 262144) ∧ R.length ≤ 1048576 ∧ t.length ≤ 262144 ∧ g ≤ 1099511627776 := by
  obtain ⟨L, h1, h2, rfl⟩ := h
  refine ⟨fun x hx => ?_, ?_, ?_, ?_⟩
  · unfold recsP at hx
    obtain ⟨a, ha, rfl⟩ := List.mem_map.1 hx
    exact okV.text (h1.1.2.2 a (List.mem_filter.1 ha).1)
  · have := recsP_le g L
    have := h1.1.count
    have := h1.1.2.1
    omega
  · have hs : ∀ (b : List UInt8) (odd : Nat), (slotP b odd).2.length ≤ 262144 := fun b odd => by
      unfold slotP
      split
      · rename_i hc
        have hi := codeV.is b (rdV b).2.1 (rdV b).2.2 (by show rdV b = _; rw [← hc.1])
        exact okV.text hi.2.2
      · simp
    have e : (snapP one two).2 = t := by rw [h2]
    rw [← e]
    unfold snapP pickP
    split
    · exact hs _ _
    · exact hs _ _
  · have e : (snapP one two).1 = g := by rw [h2]
    rw [← e]
    unfold snapP pickP
    split
    · exact slotP_le _ _
    · exact slotP_le _ _
theorem VT.small {w : World} {v g : Nat} {P : Nat → Prop} {S : Tp} {V : Vs} (h : VT w v g P S V) : Small V ∧ V.gen ≤ 1099511627776 ∧ V.text.length ≤ 262144 ∧ V.recs.length ≤ 1048576 := by
  obtain ⟨_, _, h3, _, h5, _⟩ := h
  obtain ⟨q1, q2, q3, q4⟩ := h5.opened.small (h3.now 0)
  exact ⟨⟨by omega, by omega, fun t ht => by have := q1 t ht; omega⟩, q4, q3, q2⟩
theorem VText {S : Tp} (v g : Nat) (P : Nat → Prop) (V : Vs) (w : World) (h : VT w v g P S V) : Calls Tryd.prog 27 #[.pointer (some ⟨v, 0, none⟩)] w (S4NewSlice w V.text) := by
  have hs := h.small
  obtain ⟨_, _, _, _, _, H, F, _, _, k3, _⟩ := h
  obtain ⟨A, n, c, B, k, d, hr, ho, _⟩ := k3.rows
  exact Text_row v n c A V.text _ w hr rfl ho.bs (by rw [← ho.length]; omega)
theorem VRecords {S : Tp} (v g : Nat) (P : Nat → Prop) (V : Vs) (w : World) (h : VT w v g P S V) : Calls Tryd.prog 25 #[.pointer (some ⟨v, 0, none⟩)] w (NewTexts w V.recs.length V.recs) := by
  have hs := h.small
  obtain ⟨_, _, _, _, _, H, F, _, _, k3, _⟩ := h
  obtain ⟨A, n, c, B, k, d, hr, _, hk, ht⟩ := k3.rows
  subst hk
  exact Records_row v _ d B V.recs H _ w hr rfl ht (by omega) (fun t q => by have := hs.1.2.2 t q; omega)
theorem VSame {S : Tp} (v g m : Nat) (P D : Nat → Prop) (V : Vs) (w : World) (h : VT w v g P S V) (hm : DM w m D V) :
    Calls Tryd.prog 14 #[.pointer (some ⟨v, 0, none⟩), .pointer (some ⟨m, 0, none⟩)] w fun e w' => e = .returned (.bool true) ∧ Below w.heap.size w w' := by
  have hs := h.small.1
  obtain ⟨_, _, _, _, _, H, F, _, _, k3, _⟩ := h
  exact same_yes v g m H D V w k3 hm hs
theorem VTextN {S : Tp} (v g n : Nat) (P : Nat → Prop) (V : Vs) (t : List UInt8) (w : World) (h : VT w v g P S V) (ht : V.text = t) (hn : t.length = n) : Calls Tryd.prog 27 #[.pointer (some ⟨v, 0, none⟩)] w fun e w' => ∃ A c, e = .returned (.slice A n c) ∧ n ≤ c ∧ Below w.heap.size w w' ∧ Own w' w.heap.size 5 (.slice A n c) n t := by
  subst ht hn
  exact VText v g P V w h
theorem VRecordsN {S : Tp} (v g n : Nat) (P : Nat → Prop) (V : Vs) (L : List (List UInt8)) (w : World) (h : VT w v g P S V) (hL : V.recs = L) (hn : L.length = n) : Calls Tryd.prog 25 #[.pointer (some ⟨v, 0, none⟩)] w fun e w' => ∃ A c, e = .returned (.slice A n c) ∧ n ≤ c ∧ OwnL w' w.heap.size (.slice A n c) n L ∧ Below w.heap.size w w' := by
  subst hL hn
  exact VRecords v g P V w h
theorem litTexts (w : World) (z : Int) (x : UInt8) (hz : z = (x.toNat : Int)) : Bss ((w.alloc (.cells #[.int .u8 z] 5)).alloc (.cells #[.slice (some ⟨w.heap.size, 0, none⟩) 1 1] 32)) (some ⟨w.heap.size + 1, 0, none⟩) 1 [[x]] := by
  refine ⟨rfl, fun k l hl => ?_⟩
  match k, hl with
  | 0, hl =>
    simp at hl
    subst hl
    have hN := Row.new (w.alloc (.cells #[.int .u8 z] 5)) 32 #[.slice (some ⟨w.heap.size, 0, none⟩) 1 1]
    have hs : (w.alloc (.cells #[.int .u8 z] 5)).heap.size = w.heap.size + 1 := by simp
    rw [hs] at hN
    exact ⟨_, 0, some ⟨w.heap.size, 0, none⟩, 1, rfl, hN.lt, hN.cell 0, Nat.le_refl _, (litOne w z x hz).below ((Below.refl _ _).alloc (Nat.le_refl _) _)⟩
theorem Grows.base {w : World} {P P' : Nat → Prop} {B : Nat} (h : Grows w P P') (hP : ∀ b, P b → B ≤ b) (hB : B ≤ w.heap.size) : ∀ b, P' b → B ≤ b := fun b q => by
  rcases h b q with q | q
  · exact hP b q
  · exact Nat.le_trans hB q
set_option maxRecDepth 100000 in
set_option maxHeartbeats 8000000 in
theorem awake_any (w : World) (hTb : Tab 2 w) : Calls Tryd.prog 11 #[] w fun e w' => e = .returned (.bool true) ∧ Below w.heap.size w w' := by
  have HTb := Lib.hid hTb
  clear hTb
  go_enter Tryd.func11, Tryd.ntmps11
  go_wp2_with (first
    | (go_at_call 12; refine (VNew w HTb.out).mono ?_; rintro e1 w1 ⟨g, P0, rfl, hP0, ht1, hb1⟩; have HT1 := Lib.hid ht1; have HP0 := Lib.hid hP0; have B1 := hb1; have T1 := Lib.hid (HTb.out.below hb1); clear ht1 hP0 hb1)
    | (go_at_call 13; have hz := V5; clear hz; refine (VOpen (S := S5.crash []) gc _ P6 _ w6 HT6.out (crash_ok [] 0 K5.out) rfl T6.out (by rw [crash_cont K5.out]; exact V5.out.2.2.2.2.1)).mono ?_; rintro e7 w7 hr7; obtain ⟨vv, rfl, ho7, P7, S7, hg7, hv7, hc7, hl7⟩ := (by exact hr7.ok (crash_live S5 [])); have V7 := Lib.hid hv7; have B7 : Below w.heap.size w w7 := B6.trans (ho7.below (fun x q => by have := HP6.out x q; have := B5.size; omega) B6.size); clear hr7 hg7 hv7 hc7 hl7 ho7)
    | (go_at_call 13; refine (VFirst w1 g P0 HT1.out T1.out).mono ?_; rintro e2 w2 ⟨v, rfl, ho2, P2, S2, hg2, hv2, hc2, hl2⟩; have V2 := Lib.hid hv2; have HP2 := Lib.hid (hg2.base HP0.out B1.size); have B2 : Below w.heap.size w w2 := B1.trans (ho2.below HP0.out B1.size); have T2 := Lib.hid (T1.out.off ho2 HT1.out.2.1); have HC2 := Lib.hid hc2; have HL2 := Lib.hid hl2; clear hg2 hv2 hc2 hl2 ho2)
    | (go_at_call 19; have hz := V4; clear hz; refine (VAddLit (S := S4) 98 98 rfl v g P4 (Vs.new.add [97] |>.save [115]) w4 V4.out T4.out HL4.out (by decide) (by rw [HC4.out]; simp)).mono ?_; rintro e5 w5 ⟨rfl, ho5, P5, S5, hg5, hv5, hc5, hl5⟩; have V5 := Lib.hid hv5; have HP5 := Lib.hid (hg5.base HP4.out B4.size); have B5 : Below w.heap.size w w5 := B4.trans (ho5.below HP4.out B4.size); have T5 := Lib.hid (T4.out.off ho5 V4.out.2.1); have K5 := Lib.hid (show S5.ok 0 from hv5.2.2.1); clear hg5 hv5 hc5 hl5 ho5)
    | (go_at_call 19; refine (VAddLit (S := S2) 97 97 rfl v g P2 Vs.new w2 V2.out T2.out HL2.out (by decide) (by rw [HC2.out]; simp)).mono ?_; rintro e3 w3 ⟨rfl, ho3, P3, S3, hg3, hv3, hc3, hl3⟩; have V3 := Lib.hid hv3; have HP3 := Lib.hid (hg3.base HP2.out B2.size); have B3 : Below w.heap.size w w3 := B2.trans (ho3.below HP2.out B2.size); have T3 := Lib.hid (T2.out.off ho3 V2.out.2.1); have HL3 := Lib.hid hl3; clear hg3 hv3 hc3 hl3 ho3)
    | (go_at_call 22; refine (VSaveLit (S := S3) 115 115 rfl v g P3 (Vs.new.add [97]) w3 V3.out T3.out HL3.out (by decide)).mono ?_; rintro e4 w4 ⟨rfl, ho4, P4, S4, hg4, hv4, hc4, hl4⟩; have V4 := Lib.hid hv4; have HP4 := Lib.hid (hg4.base HP3.out B3.size); have B4 : Below w.heap.size w w4 := B3.trans (ho4.below HP3.out B3.size); have T4 := Lib.hid (T3.out.off ho4 V3.out.2.1); have HL4 := Lib.hid hl4; have HC4 := Lib.hid hc4; clear hg4 hv4 hc4 hl4 ho4)
    | (go_at_call 15; refine (VCrash (S := S5) g 0 0 0 none [] P5 w5 V5.out.tape K5.out (by omega) (Is.nil _ _) T5.out).mono ?_; rintro e6 w6 ⟨gc, P6, rfl, hP6, ht6, hb6⟩; have HT6 := Lib.hid ht6; have HP6 := Lib.hid hP6; have B6 : Below w.heap.size w w6 := B5.trans (hb6.mono B5.size); have T6 := Lib.hid (T5.out.below hb6); clear hP6 ht6 hb6)
    | (go_at_call 24; refine (VGen vv gc P7 _ w7 V7.out).mono ?_; rintro e8 w8 ⟨rfl, rfl⟩)
    | (go_at_call 27; refine (VTextN vv gc 1 P7 _ [115] w7 V7.out rfl rfl).mono ?_; rintro e9 w9 ⟨A9, c9, rfl, hc9, hb9, ho9⟩; have HO9 := Lib.hid ho9; have B9 : Below w.heap.size w w9 := B7.trans (hb9.mono B7.size); have V9 := Lib.hid (V7.out.below hb9); clear ho9 hb9 hc9)
    | (go_at_call 26; refine (Same_yes A9 (some ⟨w9.heap.size, 0, none⟩) 1 c9 1 [115] (w9.alloc (.cells #[.int .u8 115] 5)) (HO9.out.bs.below ((Below.refl _ _).alloc (Nat.le_refl _) _)) (litOne w9 115 115 rfl) (by omega)).mono ?_; rintro e10 w10 ⟨rfl, k10, hw10⟩; have hq10 : Below w9.heap.size w9 w10 := (by rw [hw10]; exact below_drewN ((Below.refl _ _).alloc (Nat.le_refl _) _) _); have B10 : Below w.heap.size w w10 := B9.trans (hq10.mono B9.size); have V10 := Lib.hid (V9.out.below hq10); clear hw10 hq10)
    | (go_at_call 25; refine (VRecordsN vv gc 1 P7 _ [[98]] w10 V10.out rfl rfl).mono ?_; rintro e11 w11 ⟨A11, c11, rfl, hc11, ho11, hb11⟩; have HO11 := Lib.hid ho11; have B11 : Below w.heap.size w w11 := B10.trans (hb11.mono B10.size); clear ho11 hb11 hc11)
    | (go_at_call 28; refine (LSame_yes A11 (some ⟨w11.heap.size + 1, 0, none⟩) 1 c11 1 [[98]] ((w11.alloc (.cells #[.int .u8 98] 5)).alloc (.cells #[.slice (some ⟨w11.heap.size, 0, none⟩) 1 1] 32)) (HO11.out.bss.below (((Below.refl _ _).alloc (Nat.le_refl _) _).alloc (by simp) _)) (litTexts w11 98 98 rfl) (by omega) (by simp)).mono ?_; rintro e12 w12 ⟨rfl, k12, hw12⟩; have B12 : Below w.heap.size w w12 := (by rw [hw12]; exact below_drewN ((B11.alloc B11.size _).alloc (by have := B11.size; simp; omega) _) _); clear hw12))
  go_ret
  exact ⟨rfl, B12⟩
end Go.Proofs.YtgiobcpljbpmiaaDoor
