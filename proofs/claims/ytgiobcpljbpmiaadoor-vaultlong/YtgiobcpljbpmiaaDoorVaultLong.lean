/-
  VaultLong, whole, as the tied card (Rows.VaultLongCardSaid): for all numbers n (0 to 2^18) and many (0 to 8; else the example alone is played): a record of more than MaxRecord - 64 bytes is refused with ErrLong each time, so is a snapshot, and nothing changes; of shorter ones as many are added as the tape has room for, where it has none ErrFull is answered and nothing changes, and a snapshot of n bytes is saved; and the document's example. Conditions: the table sha.constants reads as its initialiser lays it (tied to the program's text).
-/
import Derived.Test.YtgiobcpljbpmiaaDoorRows
import Derived.Test.YtgiobcpljbpmiaaDoorCards
import Derived.Test.YtgiobcpljbpmiaaDoorTie
import Derived.WalkKit
import Derived.ProofKit
import Derived.OpenShut
import Derived.ChangeMaps5
import Derived.ShutString
import Derived.ChangeOld
import Derived.Below
import Derived.SizedLaws
import Derived.SevenTiedAt
import Derived.Lay
import Derived.LaidLaws
import Derived.Test.YtgiobcpljbpmiaaDoorVltW
namespace Go.Proofs.YtgiobcpljbpmiaaDoor.vaultLong
open Go.ChangeShapes Go.WideShapes Go.ChangeAt Go.RowKit
open Go.ChangeMaps (open_string shut_string)
set_option linter.unusedVariables false
theorem own : ownKnob Tryd.prog.godebug = none := by kernel_rfl
theorem laidOut : laidOutB Tryd.prog = true := by kernel_rfl
theorem AddR.full {w w' : World} {v g : Nat} {P : Nat → Prop} {S : Tp} {V : Vs} {t : List UInt8} {e : Ending} (h : AddR w v g P S V t e w') (hl : S.live) (hf : 1048576 < (S.cont 0).length + (vFr (V.gen, t)).length) :
    e = .returned (.int .i64 90) ∧ Off P w w' ∧ ∃ P', Grows w P P' ∧ VT w' v g P' S V := by
  obtain ⟨ho, P', hg, ⟨he, S', h1, h2, h3⟩ | ⟨he, h2, _⟩ | ⟨_, h2, _⟩⟩ := h
  · have := h1.2.2.1.now 0
    have e : ((S'.f 0).now).length = (S'.cont 0).length := rfl
    rw [e, h2, put_same, List.length_append] at this
    omega
  · exact ⟨he, ho, P', hg, h2⟩
  · exact absurd hl h2
theorem wpList_makeN {ops : Array Oper} {rest : List Oper} {o : Oper} {a : Act} {w : World} {Q : Exit → Act → World → Prop} (n : Nat) (t : List UInt8) (ht : List.replicate n (0 : UInt8) = t) (hgd : o.guard = none) (x y : Operand) (ho : o.op = .makeSlice 32 x y) (hx : a.eval x = .int .i64 (n : Int)) (hy : a.eval y = .int .i64 (n : Int)) (hn : n ≤ 2000000)
    (h : ∀ g w', w.heap.size ≤ g → g < w'.heap.size → Bs w' (some ⟨g, 0, none⟩) n t → Below w.heap.size w w' → wpList Tryd.prog ops Q rest (a.put o.dst (.slice (some ⟨g, 0, none⟩) n n)) w') : wpList Tryd.prog ops Q (o :: rest) a w := by
  subst ht
  have hrun := made_byte Tryd.prog Tryd.byteTypes n (by omega) w
  refine wpList_plain hgd fun K hK => ?_
  unfold Oper.wp execOp
  simp only [ho, hx, hy, Sem.run_bind, hrun, Result.andThen_ok]
  refine hK _ _ (h _ _ (Nat.le_refl _) (by simp) ?_ ((Below.refl _ _).alloc (Nat.le_refl _) _))
  refine ((Row.new w 5 (madeCells #[.int .u8 0] n)).own (base := w.heap.size) (Nat.le_refl _) (by simp) (size_madeCells _ _) (by omega) (fun j u hu => ?_)).bs
  obtain ⟨hj, e⟩ := List.getElem?_eq_some_iff.1 hu
  rw [List.length_replicate] at hj
  rw [List.getElem_replicate] at e
  subst e
  simp [madeCells, hj, Nat.mod_one]
theorem vFr_n {g : Nat} {t : List UInt8} {n : Nat} (hg : g = 0) (ht : t.length = n) (hn : n ≤ 262144) : (vFr (g, t)).length ≤ n + 30 := by
  have h2 := wide8 (N := t.length) (by omega)
  have h1 := wide8 (N := g) (by omega)
  have h3 : (vRec g t).length ≤ n + 18 := by rw [vRec_length]; omega
  have h4 := wide8 (N := (vRec g t).length) (by omega)
  have h5 := wide_zero
  have e : (vRec g t).length = wide g + 1 + (wide t.length + 1 + t.length) := vRec_length g t
  unfold vFr
  rw [frB_length]
  have h6 : wide t.length ≤ 3 := wide_le (k := 3) (by omega)
  have h7 : wide (vRec g t).length ≤ 3 := wide_le (k := 3) (by omega)
  subst hg
  simp only at *
  omega
set_option maxRecDepth 100000 in
set_option maxHeartbeats 2000000 in
theorem walk_no (w : World) (a0 a1 : Int) (h : a0 < 0 ∨ (0 ≤ a0 ∧ 262144 < a0) ∨ (0 ≤ a0 ∧ a0 ≤ 262144 ∧ a1 < 0) ∨ (0 ≤ a0 ∧ a0 ≤ 262144 ∧ 0 ≤ a1 ∧ 8 < a1)) (hT : Tab 2 w) :
    Calls Tryd.prog 7 #[.int .i64 a0, .int .i64 a1] w fun e w' => e = .returned (.bool true) ∧ Below w.heap.size w w' := by
  have HT := Lib.hid hT
  clear hT
  rcases h with h1 | ⟨h1, h2⟩ | ⟨h1, h2, h3⟩ | ⟨h1, h2, h3, h4⟩
  · go_enter Tryd.func7, Tryd.ntmps7
    go_wp2_with (go_at_call 11; refine (awake_any w HT.out).mono ?_; rintro e9 w9 ⟨rfl, hb9⟩; have B9 := hb9; clear hb9)
    go_ret
    exact ⟨rfl, B9⟩
  · have h1' : ¬ a0 < 0 := by omega
    go_enter Tryd.func7, Tryd.ntmps7
    go_wp2_with (go_at_call 11; refine (awake_any w HT.out).mono ?_; rintro e9 w9 ⟨rfl, hb9⟩; have B9 := hb9; clear hb9)
    go_ret
    exact ⟨rfl, B9⟩
  · have h1' : ¬ a0 < 0 := by omega
    have h2' : ¬ 262144 < a0 := by omega
    go_enter Tryd.func7, Tryd.ntmps7
    go_wp2_with (go_at_call 11; refine (awake_any w HT.out).mono ?_; rintro e9 w9 ⟨rfl, hb9⟩; have B9 := hb9; clear hb9)
    go_ret
    exact ⟨rfl, B9⟩
  · have h1' : ¬ a0 < 0 := by omega
    have h2' : ¬ 262144 < a0 := by omega
    have h3' : ¬ a1 < 0 := by omega
    go_enter Tryd.func7, Tryd.ntmps7
    go_wp2_with (go_at_call 11; refine (awake_any w HT.out).mono ?_; rintro e9 w9 ⟨rfl, hb9⟩; have B9 := hb9; clear hb9)
    go_ret
    exact ⟨rfl, B9⟩
set_option maxRecDepth 100000 in
set_option maxHeartbeats 8000000 in
theorem walk_ok (w : World) (n many : Nat) (hn : n ≤ 262144) (hm : many ≤ 8) (hT : Tab 2 w) :
    Calls Tryd.prog 7 #[.int .i64 (n : Int), .int .i64 (many : Int)] w fun e w' => e = .returned (.bool true) ∧ Below w.heap.size w w' := by
  have HT := Lib.hid hT
  clear hT
  have i1 : ¬ (n : Int) < 0 := by omega
  have i2 : ¬ (262144 : Int) < (n : Int) := by omega
  have i3 : ¬ (many : Int) < 0 := by omega
  have i4 : ¬ (8 : Int) < (many : Int) := by omega
  have HLr := Lib.hid (List.length_replicate (n := n) (a := (0 : UInt8)))
  obtain ⟨t, ht⟩ : ∃ t, List.replicate n (0 : UInt8) = t := ⟨_, rfl⟩
  have HRt := Lib.hid ht
  rw [ht] at HLr
  clear ht
  obtain ⟨fl, hfl⟩ : ∃ fl, (vFr (0, t)).length = fl := ⟨_, rfl⟩
  have hfn : fl ≤ n + 30 := by rw [← hfl]; exact vFr_n rfl HLr.out hn
  have HFl := Lib.hid hfl
  clear hfl
  go_enter Tryd.func7, Tryd.ntmps7
  go_wp2_with (first
    | (go_at_call 12; refine (VNew w HT.out).mono ?_; rintro e1 w1 ⟨g, P0, rfl, hP0, ht1, hb1⟩; have HT1 := Lib.hid ht1; have HP0 := Lib.hid hP0; have B1 := hb1; have T1 := Lib.hid (HT.out.below hb1); clear ht1 hP0 hb1)
    | (go_at_call 13; refine (VFirst w1 g P0 HT1.out T1.out).mono ?_; rintro e2 w2 ⟨v, rfl, ho2, P2, S2, hg2, hv2, hc2, hl2⟩; have V2 := Lib.hid hv2; have HP2 := Lib.hid (hg2.base HP0.out B1.size); have B2 : Below w.heap.size w w2 := B1.trans (ho2.below HP0.out B1.size); have HC2 := Lib.hid hc2; have HL2 := Lib.hid hl2; clear hg2 hv2 hc2 hl2 ho2)
    | ((with_reducible refine wpList_makeN n t HRt.out rfl (.tmp 34) (.tmp 34) rfl rfl rfl (by omega) ?_); intro g8 w3 hg8 hl8 hB3 hb3; have HL8 := Lib.hid hl8; have HB3 := Lib.hid hB3; have B3 := Lib.hid (B2.trans (hb3.mono B2.size)); have V3 := Lib.hid (V2.out.below hb3); have HG8 := Lib.hid (show ∀ b, P2 b → b ≠ g8 from fun b q e => by have := V2.out.1 b q; omega); clear hB3 hb3 hg8 hl8))
  have HC3 := Lib.hid (show (S2.cont 0).length = 0 * fl by rw [HC2.out 0]; simp)
  clear V2 HC2 B2 HT1 HP0 B1 T1
  by_cases h62 : 262080 < n
  · have i5 : (262080 : Int) < (n : Int) := by omega
    go_loopw [9, 10] (fun h i wr => ∃ (k : Nat) , k ≤ many ∧ h = .int .i64 0 ∧ i = .int .i64 (k : Int) ∧ Hid (VT wr v g P2 S2 Vs.new) ∧ Hid (Below w.heap.size w wr)) (fun _ i _ => many - (intOf i).toNat)
    case atStart => exact ⟨0, Nat.zero_le _, rfl, rfl, V3, B3⟩
    case round =>
      obtain ⟨k, hk, rfl, rfl, HVr, HBr⟩ := hrel
      clear V3 B3
      by_cases hlt : k < many
      · go_wp2_with (go_at_call 19; obtain ⟨_, _, _, _, _, H, F, _, _, k3, _⟩ := HVr.out; obtain ⟨A5, n5, c5, B5, k5, d5, hr5, _⟩ := k3.rows; refine (Add_long v _ (some ⟨g8, 0, none⟩) n n wr hr5 rfl h62).mono ?_; rintro e4 w4 ⟨rfl, rfl⟩; clear hr5 k3)
        go_roundw
        case rel => exact ⟨k + 1, by omega, rfl, by go_num, HVr, HBr⟩
        case measure => simp [intOf]; omega
      · go_wp2_with (first
          | (go_at_call 22; obtain ⟨_, _, _, _, _, H, F, _, _, k3, _⟩ := HVr.out; obtain ⟨A5, n5, c5, B5, k5, d5, hr5, _⟩ := k3.rows; refine (Save_long v _ (some ⟨g8, 0, none⟩) n n wr hr5 rfl h62).mono ?_; rintro e4 w4 ⟨rfl, rfl⟩; clear hr5 k3)
          | (go_at_call 24; refine (VGen v g P2 _ wr HVr.out).mono ?_; rintro e8 w8 ⟨rfl, rfl⟩)
          | (go_at_call 11; refine (awake_any wr (HT.out.below HBr.out)).mono ?_; rintro e9 w9 ⟨rfl, hb9⟩; have B9 := Lib.hid (HBr.out.trans (hb9.mono HBr.out.size)); clear hb9))
        go_ret
        exact ⟨rfl, B9.out⟩
  · have i5 : ¬ (262080 : Int) < (n : Int) := by omega
    go_loopw [9, 10] (fun h i wr => ∃ (k q : Nat) (P : Nat → Prop) (S : Tp) (V : Vs), k ≤ many ∧ q ≤ k ∧ h = .int .i64 (q : Int) ∧ i = .int .i64 (k : Int) ∧ Hid (VT wr v g P S V) ∧ Hid S.live ∧ Hid (V.gen = 0) ∧ Hid (V.recs.length = q) ∧ Hid ((S.cont 0).length = q * fl) ∧ Hid (∀ b, P b → w.heap.size ≤ b ∧ b ≠ g8) ∧ Hid (Bs wr (some ⟨g8, 0, none⟩) n t) ∧ Hid (Below w.heap.size w wr) ∧ Hid (g8 < wr.heap.size)) (fun _ i _ => many - (intOf i).toNat)
    case atStart => exact ⟨0, 0, P2, S2, Vs.new, Nat.zero_le _, Nat.le_refl _, rfl, rfl, V3, HL2, Lib.hid rfl, Lib.hid rfl, HC3, Lib.hid (fun b q => ⟨HP2.out b q, HG8.out b q⟩), HB3, B3, HL8⟩
    case round =>
      obtain ⟨k, q, P, S, V, hk, hqk, rfl, rfl, HVr, HLr', HGr, HRr, HCr, HPr, HBt, HBr, HGl⟩ := hrel
      clear V3 B3 HB3 HC3 HL2 HP2 HG8 HL8
      have HTr := Lib.hid (HT.out.below HBr.out)
      by_cases hlt : k < many
      · by_cases hfit : q * fl + fl ≤ 1048576
        · have HF := Lib.hid hfit
          clear hfit
          go_wp2_with (first
            | (go_at_call 19; refine (VAdd (S := S) v g n n (some ⟨g8, 0, none⟩) t P V wr HVr.out HTr.out HBt.out (by omega) (by rw [HGr.out]; omega)).mono ?_; rintro e4 w4 hr4; obtain ⟨rfl, ho4, P4, S4, hg4, hv4, hc4, hl4⟩ := (by exact hr4.ok HLr'.out (by rw [HGr.out, HFl.out, HCr.out]; exact HF.out)); have HO4 := Lib.hid ho4; have HG4 := Lib.hid hg4; have HV4 := Lib.hid hv4; have HC4 := Lib.hid hc4; have HL4 := Lib.hid hl4; have HR4 := Lib.hid (show (V.add t).recs.length = q + 1 by show (V.recs ++ [t]).length = q + 1; rw [List.length_append, HRr.out]; rfl); clear hr4 ho4 hg4 hv4 hc4 hl4)
            | (go_at_call 25; refine (VRecordsN v g (q + 1) P4 _ _ w4 HV4.out rfl HR4.out).mono ?_; rintro e5 w5 ⟨A5, c5, rfl, hc5, ho5, hb5⟩; have HB5 := Lib.hid hb5; clear ho5 hb5 hc5))
          go_roundw
          case rel =>
            have hs4 := HO4.out.size
            have hsw := HBr.out.size
            refine ⟨k + 1, q + 1, P4, S4, V.add t, by omega, by omega, by go_num, by go_num, Lib.hid (HV4.out.below HB5.out), HL4, Lib.hid HGr.out, HR4, Lib.hid ?_, Lib.hid (fun b p => ?_), Lib.hid ((HBt.out.off (fun b off e p => by injection e with e; injection e with e; exact (HPr.out b p).2 e.symm) HO4.out).below HB5.out), Lib.hid (HBr.out.trans ((HO4.out.below (B := w.heap.size) (fun x p => (HPr.out x p).1) hsw).trans (HB5.out.mono (by omega)))), Lib.hid (by have := HGl.out; have := HB5.out.size; omega)⟩
            · rw [HC4.out, put_same, List.length_append, HGr.out, HFl.out, HCr.out, Nat.add_mul, Nat.one_mul]
            · rcases HG4.out b p with p | p
              · exact HPr.out b p
              · exact ⟨by omega, fun e => by have := HGl.out; omega⟩
          case measure => simp [intOf]; omega
        · have hfull : 1048576 < q * fl + fl := by omega
          have HF := Lib.hid hfull
          have hM : ¬ ((q + 1) * (n + 30) < 1048576) := by
            have : (q + 1) * fl ≤ (q + 1) * (n + 30) := Nat.mul_le_mul_left _ hfn
            rw [Nat.add_mul, Nat.one_mul] at this
            omega
          have hM2 : (q + 1) * (n + 30) ≤ 9 * 262174 := Nat.mul_le_mul (by omega) (by omega)
          obtain ⟨M, hMM⟩ : ∃ M, (q + 1) * (n + 30) = M := ⟨_, rfl⟩
          rw [hMM] at hM hM2
          have e1 : wrap64 (((q : Int) + 1) * ((n : Int) + 30)) = (M : Int) := by
            have : ((q : Int) + 1) * ((n : Int) + 30) = (((q + 1) * (n + 30) : Nat) : Int) := by push_cast; rfl
            rw [this, hMM]; unfold wrap64; omega
          have hge : decide (wrap64 (((q : Int) + 1) * ((n : Int) + 30)) < 1048576) = false := by rw [e1]; simp; omega
          clear hfit hfull hMM hM hM2 e1
          go_wp2_with (first
            | (go_at_call 19; refine (VAdd (S := S) v g n n (some ⟨g8, 0, none⟩) t P V wr HVr.out HTr.out HBt.out (by omega) (by rw [HGr.out]; omega)).mono ?_; rintro e4 w4 hr4; obtain ⟨rfl, ho4, P4, hg4, hv4⟩ := (by exact AddR.full hr4 HLr'.out (by rw [HGr.out, HFl.out, HCr.out]; exact HF.out)); have HO4 := Lib.hid ho4; have HG4 := Lib.hid hg4; have HV4 := Lib.hid hv4; clear hr4 ho4 hg4 hv4)
            | (go_at_call 25; refine (VRecordsN v g q P4 _ _ w4 HV4.out rfl HRr.out).mono ?_; rintro e5 w5 ⟨A5, c5, rfl, hc5, ho5, hb5⟩; have HB5 := Lib.hid hb5; clear ho5 hb5 hc5))
          go_roundw
          case rel =>
            have hs4 := HO4.out.size
            have hsw := HBr.out.size
            refine ⟨k + 1, q, P4, S, V, by omega, by omega, by go_num, by go_num, Lib.hid (HV4.out.below HB5.out), HLr', HGr, HRr, HCr, Lib.hid (fun b p => ?_), Lib.hid ((HBt.out.off (fun b off e p => by injection e with e; injection e with e; exact (HPr.out b p).2 e.symm) HO4.out).below HB5.out), Lib.hid (HBr.out.trans ((HO4.out.below (B := w.heap.size) (fun x p => (HPr.out x p).1) hsw).trans (HB5.out.mono (by omega)))), Lib.hid (by have := HGl.out; have := HB5.out.size; omega)⟩
            rcases HG4.out b p with p | p
            · exact HPr.out b p
            · exact ⟨by omega, fun e => by have := HGl.out; omega⟩
          case measure => simp [intOf]; omega
      · have hs4 := HBr.out.size
        go_wp2_with (first
          | (go_at_call 22; refine (VSave (S := S) v g n n (some ⟨g8, 0, none⟩) t P V wr HVr.out HTr.out HBt.out (by omega) (by rw [HGr.out]; omega)).mono ?_; rintro e4 w4 hr4; obtain ⟨rfl, ho4, P4, S4, hg4, hv4, hc4, hl4⟩ := (by exact hr4.ok HLr'.out); have HV4 := Lib.hid hv4; have HB4 := Lib.hid (HBr.out.trans (ho4.below (B := w.heap.size) (fun x p => (HPr.out x p).1) hs4)); have HG4 := Lib.hid (show (V.save t).gen = 1 by show V.gen + 1 = 1; rw [HGr.out]); clear hr4 ho4 hg4 hv4 hc4 hl4)
          | (go_at_call 24; refine (VGen v g P4 _ w4 HV4.out).mono ?_; rintro e8 w8 ⟨rfl, rfl⟩; rw [HG4.out])
          | (go_at_call 27; refine (VTextN v g n P4 _ t w4 HV4.out rfl HLr.out).mono ?_; rintro e5 w5 ⟨A5, c5, rfl, hc5, hb5, ho5⟩; have HB5 := Lib.hid (HB4.out.trans (hb5.mono HB4.out.size)); have HV5 := Lib.hid (HV4.out.below hb5); clear ho5 hb5 hc5)
          | (go_at_call 25; refine (VRecordsN v g 0 P4 _ [] w5 HV5.out rfl rfl).mono ?_; rintro e6 w6 ⟨A6, c6, rfl, hc6, ho6, hb6⟩; have HB6 := Lib.hid (HB5.out.trans (hb6.mono HB5.out.size)); clear ho6 hb6 hc6)
          | (go_at_call 11; refine (awake_any w6 (HT.out.below HB6.out)).mono ?_; rintro e9 w9 ⟨rfl, hb9⟩; have B9 := Lib.hid (HB6.out.trans (hb9.mono HB6.out.size)); clear hb9))
        go_ret
        exact ⟨rfl, B9.out⟩
theorem walk (w : World) (a0 : Int) (_w0 : (Lit.int .i64 a0).wf = true) (a1 : Int) (_w1 : (Lit.int .i64 a1).wf = true) (hT : Tab 2 w) :
    Calls Tryd.prog 7 #[.int .i64 a0, .int .i64 a1] w fun e w' => e = .returned (.bool true) ∧ Below w.heap.size w w' := by
  by_cases h0 : a0 < 0
  · exact walk_no w a0 a1 (.inl h0) hT
  by_cases h1 : 262144 < a0
  · exact walk_no w a0 a1 (.inr (.inl ⟨by omega, h1⟩)) hT
  by_cases h2 : a1 < 0
  · exact walk_no w a0 a1 (.inr (.inr (.inl ⟨by omega, by omega, h2⟩))) hT
  by_cases h3 : 8 < a1
  · exact walk_no w a0 a1 (.inr (.inr (.inr ⟨by omega, by omega, by omega, h3⟩))) hT
  obtain ⟨n, rfl⟩ : ∃ n : Nat, a0 = n := ⟨a0.toNat, by omega⟩
  obtain ⟨k, rfl⟩ : ∃ k : Nat, a1 = k := ⟨a1.toNat, by omega⟩
  exact walk_ok w n k (by omega) (by omega) hT

set_option maxRecDepth 100000 in
theorem lifted (os : Os) (started : os.Started) (H : Type) (enc : TypeId × Value → H) :
    ReturnsInHanded {} Tryd.checked os 7 .any (fun w args => (Rows.vaultLongSpec.pre enc Tryd.prog Tryd.f7 Rows.vaultLongRow.domain false w args ∧ laidMetH Tryd.prog lay1 w) ∧ sizedMet enc Tryd.prog Tryd.f7 (OpenSpec.ofChange Rows.vaultLongSpec) false w args)
      (Rows.vaultLongSpec.post enc Tryd.prog Tryd.f7 false true false false) := by
  refine returnsInHanded_of_change_and (C := Tryd.checked) (X := fun w _ => laidMetH Tryd.prog lay1 w) (fun _ _ _ hh h => h.of_heap hh) own started (by kernel_rfl) Tryd.func7
    (ChangeSpec.witness_shaped (enc := enc) (C := Tryd.checked) (os := os) (X := fun w _ => laidMetH Tryd.prog lay1 w) false (World.laidAll Tryd.prog os lay1) #[.int .i64 0, .int .i64 0] 8 rfl (World.shaped_of_ZipB (by kernel_rfl) (by kernel_rfl)) (by kernel_rfl) (by kernel_rfl) (by kernel_rfl) (met1 os _)) ?_
  intro W base args ds gs before hval0 hW hcnd hsz0 hL _
  have hval : ∀ (j : Nat) t v, Tryd.f7.params[j]? = some t → args[j]? = some v → Value.okWide Tryd.prog W .any base t v := hval0
  have hW' := hW
  obtain ⟨p, q, hA0, hV, rfl, hfz, hnd⟩ := hW
  have hA : DataW.TrodAll enc Tryd.prog W 0 (fun _ => true) true Tryd.f7.params.toList args.toList ds p := hA0
  have hsz : (DataW.weightsEach Tryd.prog (Tryd.f7.params.toList ++ Rows.vaultLongSpec.plain.varTypes Tryd.prog) (ds ++ gs)).all (· ≤ reachBytes) = true := hsz0
  rw [Tryd.params7] at hA hval hsz
  obtain ⟨v0, vs0, d0, ds0, p0, q0, hargs, rfl, rfl, h0, r0⟩ := trodAll_cons hA
  obtain ⟨v1, vs1, d1, ds1, p1, q1, rfl, rfl, rfl, h1, r1⟩ := trodAll_cons r0
  obtain ⟨rfl, rfl, rfl⟩ := trodAll_nil r1
  obtain rfl : args = #[v0, v1] := by cases args; simp_all
  obtain ⟨rfl, rfl⟩ := trodVars_none hV
  obtain ⟨a0, rfl, rfl, rfl, w0⟩ := open_int Tryd.underlying3 (hval 0 3 v0 rfl rfl) h0
  obtain ⟨a1, rfl, rfl, rfl, w1⟩ := open_int Tryd.underlying3 (hval 1 3 v1 rfl rfl) h1
  have hTab := of_lay1 hL
  clear hA0 hval0
  refine (walk W a0 w0 a1 w1 hTab).mono fun e W' ⟨he, bel⟩ => ?_
  subst he
  exact ⟨_, rfl, _, _, _, [], _, [], hW', trodAll_mk1 (shut_bool Tryd.underlying4 _), (trodAll_cons_mk (shut_int Tryd.underlying3 w0) (trodAll_cons_mk (shut_int Tryd.underlying3 w1) trodAll_mk0)), rfl, bel.frame _, fun h => by cases h⟩
theorem over : Rows.vaultLongRow.holds Tryd.pinned (OpenSpec.ofChange Rows.vaultLongSpec) :=
  OpenClaim.holds_of_wide 7 Tryd.f7 rfl rfl rfl rfl rfl rfl rfl ⟨rfl, rfl, rfl, rfl, rfl⟩ rfl rfl rfl rfl rfl (by kernel_rfl) Tryd.func7 (by kernel_rfl)
    (of_decide_eq_true (by kernel_rfl)) (by unfold Func.isWrapper; first | (rw [if_pos (by decide +kernel)]; kernel_rfl) | (rw [if_neg (by decide +kernel)]; exact ⟨rfl, rfl⟩))
    (fun os started H enc _ => lifted os started H enc)
theorem vaultLong_holds : Rows.VaultLongCardSaid :=
  Claim7.holds_tied_plain_at .later [] [.data] true (true, "3918f1ddf02261ad0a93f38998c4f98da4da0b9053f84aceed042060bea0f41d") false
    over (fun _ h => by cases h) (by kernel_rfl) (fun _ h => by cases h) vaultLong_row_tie rfl ⟨rfl, rfl⟩ (by kernel_rfl) rfl
    (fun f fn hf hfn => by
      obtain rfl : f = 7 := Option.some.inj ((show Tryd.prog.funcNamed "jurat/juratlaw12.VaultLong" = some 7 by kernel_rfl).symm.trans hf) |>.symm
      obtain rfl : fn = Tryd.f7 := (Option.some.inj (Tryd.func7.symm.trans hfn)).symm
      exact ⟨by kernel_rfl, fun j t ht => by
        rw [Tryd.params7] at ht
        have hm : t ∈ [3] := by simpa using Array.mem_of_getElem? ht
        have hall : ([3].all fun u => !Tryd.prog.wantsStandIn u) = true := by kernel_rfl
        exact (show Tryd.prog.wantsStandIn t = false by simpa using List.all_eq_true.1 hall t hm)⟩)
    (by kernel_rfl)
#print axioms vaultLong_holds
end Go.Proofs.YtgiobcpljbpmiaaDoor.vaultLong
