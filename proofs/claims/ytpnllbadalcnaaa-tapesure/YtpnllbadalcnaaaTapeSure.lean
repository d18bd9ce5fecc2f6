/-
  TapeSure, whole (Rows.TapeSureSaid): behind any calls, what was synced and only appended to since stands at the beginning of the file behind any crash, and what is there is a beginning of all; and the document's example. No conditions.
  The frame is the shell of the proof by program (proof-skeleton); the walk is mine.
-/
import Derived.Test.YtpnllbadalcnaaaRows
import Derived.WalkKit
import Derived.ProofKit
import Derived.OpenShut
import Derived.ShutString
import Derived.ChangeOld
import Derived.Below
import Derived.SizedLaws
import Derived.Test.YtpnllbadalcnaaaLawA
namespace Go.Proofs.Ytpnllbadalcnaaa.tapeSure
open Go.ChangeShapes Go.WideShapes Go.ChangeAt Go.RowKit
set_option linter.unusedVariables false
theorem own : ownKnob Try.prog.godebug = none := by kernel_rfl
theorem laidOut : laidOutB Try.prog = true := by kernel_rfl
theorem wpList_headW {t e s : TypeId} (ht : Try.prog.underlying t = some (.slice e)) (hs : ∀ w, (sizeOf e).run Try.prog w = .ok s w) {ops : Array Oper} {rest : List Oper} {o : Oper} {a : Act} {w : World} {Q : Exit → Act → World → Prop} (hw : Region.wanted o (yielded ops a.tmps) = true) (x1 x2 : Operand) (ho : o.op = .slice t x1 none (some x2) none)
    (A : Option Addr) (n c m : Nat) (kd : IntKind) (i : Int) (hx : a.eval x1 = .slice A n c) (hy : a.eval x2 = .int kd i) (hi : i = m) (hm : m ≤ c)
    (h : wpList Try.prog ops Q rest (a.put o.dst (.slice A m c)) w) : wpList Try.prog ops Q (o :: rest) a w :=
  wpList_of hw fun _ hK => by
    unfold Oper.wp execOp
    simp [ho, hx, hy, run_headV ht hs A n c m kd i hi hm, Result.andThen]
    exact hK _ _ h
set_option maxRecDepth 100000 in
set_option maxHeartbeats 8000000 in
theorem walk (w : World) (a0 : Option Addr) (len0 cap0 : Nat) (l0 : List Cl) (w0 : Cls w a0 len0 l0) (a1 : Int) (_w1 : (Lit.int .i64 a1).wf = true) (a2 : Option Addr) (len2 cap2 : Nat) (l2 : List (List UInt8)) (w2 : Bss w a2 len2 l2) (a3 : Option Addr) (len3 cap3 : Nat) (l3 : List Int) (w3 : Is w a3 len3 l3) :
    Calls Try.prog 4 #[.slice a0 len0 cap0, .int .i64 a1, .slice a2 len2 cap2, .slice a3 len3 cap3] w fun e w' => e = .returned (.bool true) ∧ Below w.heap.size w w' := by
  clear _w1
  have HC := Lib.hid w0
  have HM := Lib.hid w2
  have HK := Lib.hid w3
  by_cases hl : longC l0 = true
  · have HLo := Lib.hid (fun w h => long_is a0 len0 cap0 l0 true w h hl)
    clear w0 hl w2 w3
    go_enter Try.func4, Try.ntmps4
    go_wp2_with (first
      | (go_at_call 10; refine (HLo.out _ HC.out).mono ?_; rintro e1 w1 ⟨rfl, rfl⟩)
      | (go_at_call 11; refine (awake_any _).mono ?_; rintro e2 w2 ⟨rfl, hb2⟩))
    go_ret
    exact ⟨rfl, hb2⟩
  have hl' : longC l0 = false := by simpa using hl
  have HLo := Lib.hid (fun w h => long_is a0 len0 cap0 l0 false w h hl')
  by_cases h20 : 20 < len2
  · have i20 : (20 : Int) < (len2 : Int) := by omega
    clear w0 hl w2 w3 hl' h20
    go_enter Try.func4, Try.ntmps4
    go_wp2_with (first
      | (go_at_call 10; refine (HLo.out _ HC.out).mono ?_; rintro e1 w1 ⟨rfl, rfl⟩)
      | (go_at_call 11; refine (awake_any _).mono ?_; rintro e2 w2 ⟨rfl, hb2⟩))
    go_ret
    exact ⟨rfl, hb2⟩
  have i20 : ¬ (20 : Int) < (len2 : Int) := by omega
  by_cases h10 : 10 < len3
  · have i10 : (10 : Int) < (len3 : Int) := by omega
    clear w0 hl w2 w3 hl' h20 h10
    go_enter Try.func4, Try.ntmps4
    go_wp2_with (first
      | (go_at_call 10; refine (HLo.out _ HC.out).mono ?_; rintro e1 w1 ⟨rfl, rfl⟩)
      | (go_at_call 11; refine (awake_any _).mono ?_; rintro e2 w2 ⟨rfl, hb2⟩))
    go_ret
    exact ⟨rfl, hb2⟩
  have i10 : ¬ (10 : Int) < (len3 : Int) := by omega
  by_cases hz : isF a1
  · obtain ⟨i, rfl, hi, _⟩ := isF_nat hz
    have HI := Lib.hid (fun w => is_yes hz w)
    obtain ⟨hl60, hlb⟩ := longC_no hl'
    have hb5 : ∀ x ∈ l0, x.b.length ≤ 500 := fun x hx => (hlb x hx).1
    have hlen := w0.1
    have HP := Lib.hid (fun w h => played_any a0 len0 cap0 l0 w h hb5 (by omega))
    obtain ⟨S, hS⟩ : ∃ S, playT Tp.new l0 = S := ⟨_, rfl⟩
    have okS : S.ok 30060 := by rw [← hS]; exact (playT_all hb5).mono (by omega)
    have frS : S.free := by rw [← hS]; exact playT_free l0 _ free_new
    have szS : S.sz 30000 := by rw [← hS]; exact (playT_sz l0 Tp.new 0 hb5 free_new sz_new).mono (by omega)
    rw [hS] at HP
    obtain ⟨W, hW⟩ : ∃ W, (S.f i).now = W := ⟨_, rfl⟩
    obtain ⟨nW, hnW⟩ : ∃ nW, W.length = nW := ⟨_, rfl⟩
    have hnWb : nW ≤ 30000 := by have := szS.now i; rw [hW, hnW] at this; exact this
    obtain ⟨S1, hS1⟩ : ∃ S1, S.settle i = S1 := ⟨_, rfl⟩
    have okS1 : S1.ok 30060 := by rw [← hS1]; exact settle_ok i okS
    have frS1 : S1.free := by rw [← hS1]; exact frS
    have fS1 : S1.f i = ⟨W, []⟩ := by rw [← hS1]; show upd S.f i _ i = _; rw [upd_same, hW]
    have HSy := Lib.hid (fun g F w h => show Calls Try.prog 21 #[.pointer (some ⟨g, 0, none⟩), .int .i64 (i : Int)] w (fun e w' => e = .returned (.int .i64 0) ∧ Grow w g F S1 w') from by
      have q := Sync_any (S := S) g 30060 i F w h okS (by omega)
      unfold Did at q
      rw [sync_in frS hi, hS1] at q; exact q)
    have HR1 := Lib.hid (fun g F w h => read_N (S := S1) g 30060 i nW F W w h okS1 (by omega) frS1 hi (by rw [fS1]; rfl) hnW)
    have HT0 := Lib.hid (And.intro okS1 (And.intro frS1 fS1))
    have HWn := Lib.hid hnW
    have hm20 : len2 ≤ 20 := by omega
    have hk10 : len3 ≤ 10 := by omega
    clear w0 hl hl' hz hl60 hlb hb5 hlen hS okS frS szS hW hnW hS1 okS1 frS1 fS1 w2 w3 h20 h10
    go_enter Try.func4, Try.ntmps4
    go_wp2_with (first
      | (go_at_call 10; refine (HLo.out _ HC.out).mono ?_; rintro e0 w0 ⟨rfl, rfl⟩)
      | (go_at_call 19; refine (HI.out _).mono ?_; rintro e0 w0 ⟨rfl, rfl⟩)
      | (go_at_call 20; refine (HP.out _ HC.out).mono ?_; rintro e1 w1 ⟨g, F, rfl, ht1, hf1, hb1⟩; have HT1 := Lib.hid ht1; have HF1 := Lib.hid hf1; clear ht1 hf1)
      | (go_at_call 21; refine (HSy.out g F w1 HT1.out).mono ?_; rintro e2 w2 ⟨rfl, ⟨F2, hF2, ht2⟩, ho2⟩; have HT2 := Lib.hid ht2; have HF2 := Lib.hid (fun b (q : Foot g F2 b) => show w.heap.size ≤ b from (hF2.foot b q).elim (HF1.out b) (fun q2 => Nat.le_trans hb1.size q2)); have b2 := hb1.trans (ho2.below HF1.out hb1.size); clear ht2 hF2 ho2)
      | (go_at_call 22; refine (HR1.out g F2 w2 HT2.out).mono ?_; rintro e3 w3 ⟨A3, c3, rfl, hB3, hc3, hf3, hb3⟩; have HB3 := Lib.hid hB3; have HN3 := Lib.hid (fun b off (e : A3 = some ⟨b, off, none⟩) (q : Foot g F2 b) => show False from by have := hf3 b off e; have := HT2.out.foot q; omega); have HT3 := Lib.hid (HT2.out.below hb3); have b3 := b2.trans (hb3.mono b2.size); clear hB3 hf3))
    go_loopw [13] (fun x wr => ∃ (k : Nat) (T : Tp) (F' : Nat → Nat → Prop), k ≤ len2 ∧ x = .int .i64 (k : Int) ∧ Hid (Tap wr g F' T) ∧ Hid (∀ b, Foot g F' b → w.heap.size ≤ b) ∧ Hid (T.ok (30060 + 500 * k)) ∧ Hid T.free ∧ Hid (∃ D : List UInt8, T.f i = ⟨W, D.map Stp.app⟩) ∧ Hid (Bs wr A3 nW W) ∧ Hid (∀ b off, A3 = some ⟨b, off, none⟩ → nW ≠ 0 → ¬ Foot g F' b) ∧ Below w.heap.size w wr) (fun x _ => len2 - (intOf x).toNat)
    case atStart => exact ⟨0, S1, F2, Nat.zero_le _, rfl, HT3, HF2, Lib.hid HT0.out.1, Lib.hid HT0.out.2.1, Lib.hid ⟨[], HT0.out.2.2⟩, HB3, Lib.hid (fun b off e _ => HN3.out b off e), b3⟩
    case round =>
      obtain ⟨k, T, F', hk, rfl, HTk, HFk, HOk, HFr, HD, HBk, HNk, bk⟩ := hrel
      by_cases hlt : k < len2
      · obtain ⟨b, off, A', c', l, rfl, hbl, hx, hc, hnc, hB'⟩ := (HM.out.below bk).get hlt
        obtain ⟨m, hm⟩ : ∃ m, l.length = m := ⟨_, rfl⟩
        rw [hm] at hc hnc hB'
        have HB' := Lib.hid hB'
        have HMl := Lib.hid hm
        clear hx hB' hm
        by_cases h5 : 500 < m
        · have i5 : (500 : Int) < (m : Int) := by omega
          clear h5
          go_wp2_with (go_at_call 11; refine (awake_any _).mono ?_; rintro e4 w4 ⟨rfl, hb4⟩)
          go_ret
          exact ⟨rfl, bk.trans (hb4.mono bk.size)⟩
        · have i5 : ¬ (500 : Int) < (m : Int) := by omega
          have HQ := Lib.hid (append_any (S := T) i l HFr.out)
          have HOk2 := Lib.hid (append_ok (i : Int) l HOk.out)
          go_wp2_with (first
            | (go_at_call 24; refine (ownB_any A' m c' l wr HB'.out (by omega)).mono ?_; rintro e4 w4 ⟨A4, c4, rfl, hc4, ho4, hb4⟩; have HO4 := Lib.hid ho4; have HT4 := Lib.hid (HTk.out.below hb4); clear ho4)
            | (go_at_call 23; refine (App_any g (30060 + 500 * k) m c4 (i : Int) A4 l F' w4 HT4.out HOk.out (by omega) HO4.out.bs (own_foot HTk.out HO4.out)).mono ?_; rintro e5 w5 ⟨rfl, hg5⟩; have HG5 := Lib.hid hg5; clear hg5))
          go_roundw
          case rel =>
            obtain ⟨⟨F5, hF5, ht5⟩, ho5⟩ := HG5.out
            have b4 := bk.trans (hb4.mono bk.size)
            have hsz := hb4.size
            have hml := HMl.out
            refine ⟨k + 1, _, F5, by omega, by go_num, Lib.hid ht5, Lib.hid (fun b' q => (hF5.foot b' q).elim (HFk.out b') (fun q2 => Nat.le_trans b4.size q2)), Lib.hid (HOk2.out.mono (by omega)), Lib.hid HQ.out.1, Lib.hid ?_, Lib.hid ?_, Lib.hid (fun b' off' e hn0 q => ?_), b4.trans (ho5.below HFk.out b4.size)⟩
            · obtain ⟨D, hD⟩ := HD.out
              rcases HQ.out.2 with e | ⟨e, _⟩
              · exact ⟨D, by rw [e]; exact hD⟩
              · refine ⟨D ++ l, ?_⟩
                rw [Int.toNat_natCast] at e
                rw [e, hD, List.map_append]
            · rcases Nat.eq_zero_or_pos nW with h0 | h0
              · have hE := HBk.out.empty h0
                exact ⟨HBk.out.1, fun k x hx => by rw [hE] at hx; simp at hx⟩
              · exact (HBk.out.below hb4).off (fun b off e q => HNk.out b off e (by omega) q) ho5
            · rcases hF5.foot b' q with q2 | q2
              · exact HNk.out b' off' e hn0 q2
              · obtain ⟨b0, o0, x0, e0, hlt0, _⟩ := HBk.out.get (show 0 < nW by omega)
                rw [e0] at e
                injection e with e
                injection e with e
                omega
          case measure => simp [intOf]; omega
      · obtain rfl : k = len2 := by omega
        obtain ⟨D, hD⟩ := HD.out
        obtain ⟨na, hna⟩ : ∃ na, (W ++ D).length = na := ⟨_, rfl⟩
        obtain ⟨j, hj⟩ : ∃ j, keepN l3 i (T.f i).opn.length = j := ⟨_, rfl⟩
        have hjD : j ≤ D.length := by rw [← hj]; have := keepN_le l3 i (T.f i).opn.length; rw [hD] at this ⊢; simpa using this
        obtain ⟨nb, hnb⟩ : ∃ nb, (W ++ D.take j).length = nb := ⟨_, rfl⟩
        have hWl := HWn.out
        have hnaI : nb ≤ na := by rw [← hnb, ← hna, List.length_append, List.length_append, List.length_take]; omega
        have hnbI : nW ≤ nb := by rw [← hnb, List.length_append]; omega
        have hok := HOk.out
        have hfr := HFr.out
        have nT : (T.f i).now = W ++ D := by rw [hD]; exact play_apps W D
        have nX : ((T.crash l3).f i).now = W ++ D.take j := by rw [crash_now, hj, hD]; unfold Fl.after; simp only; rw [← List.map_take]; exact play_apps W _
        have hnaM : na ≤ 1048576 := by have := hok.now i; rw [nT, hna] at this; exact this
        have HRa := Lib.hid (fun g F w h => read_N (S := T) g (30060 + 500 * k) i na F (W ++ D) w h hok (by omega) hfr hi nT hna)
        have HCr := Lib.hid (fun g F w A c h hI => Crash_any (S := T) g (30060 + 500 * k) len3 c A l3 F w h hok (by omega) hI)
        have HRb := Lib.hid (fun g F w h => read_N (S := T.crash l3) g 0 i nb F (W ++ D.take j) w h (crash_ok l3 0 hok) (by omega) (free_crash T l3) hi nX hnb)
        have HE1 := Lib.hid (show (W ++ D.take j).take nW = W by rw [List.take_append_of_le_length (by omega), List.take_of_length_le (by omega)])
        have HE2 := Lib.hid (show (W ++ D).take nb = W ++ D.take j by
          rw [← hnb, List.length_append, List.length_take, Nat.min_eq_left hjD]
          rw [List.take_append, show W.length + j - W.length = j by omega, List.take_of_length_le (by omega)])
        have i1 : ¬ (nb : Int) < (nW : Int) := by omega
        have i2 : ¬ (na : Int) < (nb : Int) := by omega
        clear hD hna hj hnb hok hfr nT nX hWl
        generalize W ++ D.take j = B at *
        generalize W ++ D = AL at *
        go_wp2_with (first
          | (go_at_call 22; have hz := HT7; clear hz; refine (HRb.out g7 F7 w7 HT7.out).mono ?_; rintro e8 w8 ⟨A8, c8, rfl, hB8, hc8, _, hb8⟩; have HB8 := Lib.hid hB8; have HL9 := Lib.hid (HBk.out.below (hb4.trans (k7.trans (hb8.mono k7.size) |>.mono hb4.size))); have HL4 := Lib.hid (HB4.out.below (k7.trans (hb8.mono k7.size))); have b8 := bk.trans ((hb4.trans (k7.trans (hb8.mono k7.size) |>.mono hb4.size)).mono bk.size); clear hB8)
          | (go_at_call 22; refine (HRa.out g F' wr HTk.out).mono ?_; rintro e4 w4 ⟨A4, c4, rfl, hB4, hc4, _, hb4⟩; have HB4 := Lib.hid hB4; have HT4 := Lib.hid (HTk.out.below hb4); clear hB4)
          | (with_reducible refine wpList_copyI rfl (.tmp 76) (.tmp 77) rfl rfl a3 len3 cap3 l3 rfl ((HK.out.below bk).below hb4) (by omega) ?_; intro A6 c6 w6 hI6 hb6; have HI6 := Lib.hid hI6; have HT6 := Lib.hid (HT4.out.below hb6); clear hI6)
          | (go_at_call 14; refine (HCr.out g F' w6 A6 c6 HT6.out HI6.out).mono ?_; rintro e7 w7 ⟨g7, F7, rfl, ht7, _, hb7⟩; have HT7 := Lib.hid ht7; have k7 := hb6.trans (hb7.mono hb6.size); clear ht7)
          | (with_reducible refine wpList_headW Try.underlying29 Try.sizeB (by with_unfolding_all rfl) (.tmp 112) (.tmp 114) rfl A8 nb c8 nW .i64 _ rfl rfl rfl (by omega) ?_)
          | (with_reducible refine wpList_headW Try.underlying29 Try.sizeB (by with_unfolding_all rfl) (.tmp 120) (.tmp 122) rfl A4 na c4 nb .i64 _ rfl rfl rfl (by omega) ?_)
          | (go_at_call 25; have hz := m10; clear hz; refine (Same_yes A8 A4 nb c8 c4 B (w8.drewN m10) (HB8.out.drewN _) (show Bs w8 A4 nb B from by rw [← HE2.out]; exact HL4.out.take hnaI) (by omega)).mono ?_; rintro e11 w11 ⟨rfl, m11, rfl⟩)
          | (go_at_call 25; refine (Same_yes A8 A3 nW c8 c3 W w8 (by rw [← HE1.out]; exact HB8.out.take hnbI) HL9.out (by omega)).mono ?_; rintro e10 w10 ⟨rfl, m10, rfl⟩)
          | (go_at_call 11; refine (awake_any _).mono ?_; rintro e12 w12 ⟨rfl, hb12⟩))
        go_ret
        exact ⟨rfl, b8.trans (Below.mono (show Below w8.heap.size w8 w12 from (below_drewN (Below.refl _ _) _).trans hb12) b8.size)⟩
  · have HI := Lib.hid (fun w => is_no hz w)
    clear w0 hl w2 w3 hl' h20 h10 hz
    go_enter Try.func4, Try.ntmps4
    go_wp2_with (first
      | (go_at_call 10; refine (HLo.out _ HC.out).mono ?_; rintro e1 w1 ⟨rfl, rfl⟩)
      | (go_at_call 19; refine (HI.out _).mono ?_; rintro e1 w1 ⟨rfl, rfl⟩)
      | (go_at_call 11; refine (awake_any _).mono ?_; rintro e2 w2 ⟨rfl, hb2⟩))
    go_ret
    exact ⟨rfl, hb2⟩

set_option maxRecDepth 100000 in
theorem lifted (os : Os) (started : os.Started) (H : Type) (enc : TypeId × Value → H) :
    ReturnsInHanded {} Try.checked os 4 .any (Rows.tapeSureSpec.pre6 enc Try.prog Try.f4 Rows.tapeSureRow.domain false) (Rows.tapeSureSpec.post enc Try.prog Try.f4 false true false false) := by
  refine returnsInHanded_of_change_sized (C := Try.checked) own started (by kernel_rfl) Try.func4
    (ChangeSpec.witness6 (enc := enc) (C := Try.checked) false ⟨#[], #[.slice none 0 0, .int .i64 0, .slice none 0 0, .slice none 0 0], []⟩ 8 (by kernel_rfl) (by kernel_rfl) (by kernel_rfl) (by kernel_rfl)) ?_
  intro W base args ds gs before hval0 hW hcnd hsz0 _
  have hval : ∀ (j : Nat) t v, Try.f4.params[j]? = some t → args[j]? = some v → Value.okWide Try.prog W .any base t v := hval0
  have hW' := hW
  obtain ⟨p, q, hA0, hV, rfl, hfz, hnd⟩ := hW
  have hA : DataW.TrodAll enc Try.prog W 0 (fun _ => true) true Try.f4.params.toList args.toList ds p := hA0
  have hsz : (DataW.weightsEach Try.prog (Try.f4.params.toList ++ Rows.tapeSureSpec.plain.varTypes Try.prog) (ds ++ gs)).all (· ≤ reachBytes) = true := hsz0
  rw [Try.params4] at hA hval hsz
  obtain ⟨v0, vs0, d0, ds0, p0, q0, hargs, rfl, rfl, h0, r0⟩ := trodAll_cons hA
  obtain ⟨v1, vs1, d1, ds1, p1, q1, rfl, rfl, rfl, h1, r1⟩ := trodAll_cons r0
  obtain ⟨v2, vs2, d2, ds2, p2, q2, rfl, rfl, rfl, h2, r2⟩ := trodAll_cons r1
  obtain ⟨v3, vs3, d3, ds3, p3, q3, rfl, rfl, rfl, h3, r3⟩ := trodAll_cons r2
  obtain ⟨rfl, rfl, rfl⟩ := trodAll_nil r3
  obtain rfl : args = #[v0, v1, v2, v3] := by cases args; simp_all
  obtain ⟨rfl, rfl⟩ := trodVars_none hV
  have k0 := h0
  have lt0 : ∀ x ∈ p0, x.block < W.heap.size := by obtain ⟨m, hm⟩ := k0; exact DataW.trod_lt m _ _ _ hm
  obtain ⟨a0, len0, cap0, l0, rfl, w0⟩ := open_cls (hval 0 22 v0 rfl rfl) h0
  obtain ⟨a1, rfl, rfl, rfl, w1⟩ := open_int Try.underlying3 (hval 1 3 v1 rfl rfl) h1
  have k2 := h2
  have lt2 : ∀ x ∈ p2, x.block < W.heap.size := by obtain ⟨m, hm⟩ := k2; exact DataW.trod_lt m _ _ _ hm
  obtain ⟨a2, len2, cap2, l2, rfl, w2⟩ := open_bss (hval 2 43 v2 rfl rfl) h2
  have k3 := h3
  have lt3 : ∀ x ∈ p3, x.block < W.heap.size := by obtain ⟨m, hm⟩ := k3; exact DataW.trod_lt m _ _ _ hm
  obtain ⟨a3, len3, cap3, l3, rfl, w3⟩ := open_is (hval 3 30 v3 rfl rfl) h3
  clear hA0 hval0
  refine (walk W a0 len0 cap0 l0 w0 a1 w1 a2 len2 cap2 l2 w2 a3 len3 cap3 l3 w3).mono fun e W' ⟨he, bel⟩ => ?_
  subst he
  exact ⟨_, rfl, _, _, _, [], _, [], hW', trodAll_mk1 (shut_bool Try.underlying4 _), (trodAll_cons_mk (Below.trod laidOut (by kernel_rfl) (of_decide_eq_true (by kernel_rfl)) k0 bel lt0) (trodAll_cons_mk (shut_int Try.underlying3 w1) (trodAll_cons_mk (Below.trod laidOut (by kernel_rfl) (of_decide_eq_true (by kernel_rfl)) k2 bel lt2) (trodAll_cons_mk (Below.trod laidOut (by kernel_rfl) (of_decide_eq_true (by kernel_rfl)) k3 bel lt3) trodAll_mk0)))), rfl, bel.frame _, fun h => by cases h⟩
theorem over : Rows.tapeSureRow.holds Try.pinned (OpenSpec.ofChange Rows.tapeSureSpec) :=
  OpenClaim.holds_of_wide 4 Try.f4 rfl rfl rfl rfl rfl rfl rfl ⟨rfl, rfl, rfl, rfl, rfl⟩ rfl rfl rfl rfl rfl (by kernel_rfl) Try.func4 (by kernel_rfl)
    (of_decide_eq_true (by kernel_rfl)) (by unfold Func.isWrapper; first | (rw [if_pos (by decide +kernel)]; kernel_rfl) | (rw [if_neg (by decide +kernel)]; exact ⟨rfl, rfl⟩))
    (fun os started H enc _ => lifted os started H enc)
theorem tapeSure_holds : Rows.TapeSureSaid := over
#print axioms tapeSure_holds
end Go.Proofs.Ytpnllbadalcnaaa.tapeSure
