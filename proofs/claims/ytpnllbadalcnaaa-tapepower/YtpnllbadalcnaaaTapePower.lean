/-
  TapePower, whole (Rows.TapePowerSaid): behind a fuse of n at most n steps and syncs are made; where the power goes just n were, and each call of a file that there is is refused with ErrDown just where it is gone; and the document's example. No conditions.
  The frame is the shell of the proof by program (proof-skeleton); the walk is mine.
-/
import Derived.Test.YtpnllbadalcnaaaRows
import Derived.WalkKit
import Derived.ProofKit
import Derived.OpenShut
import Derived.ShutString
import Derived.ChangeOld
import Derived.Below
import Derived.SizedLaws
import Derived.Test.YtpnllbadalcnaaaFuseA
namespace Go.Proofs.Ytpnllbadalcnaaa.tapePower
open Go.ChangeShapes Go.WideShapes Go.ChangeAt Go.RowKit
set_option linter.unusedVariables false
theorem own : ownKnob Try.prog.godebug = none := by kernel_rfl
theorem laidOut : laidOutB Try.prog = true := by kernel_rfl
theorem wpList_indexK0 {ops : Array Oper} {rest : List Oper} {o : Oper} {a : Act} {w : World} {Q : Exit → Act → World → Prop} (hgd : o.guard = none) (x y : Operand) (ho : o.op = .indexAddr 22 x y) (b off n c k at' : Nat) (z : Int)
    (hx : a.eval x = .slice (some ⟨b, off, none⟩) n c) (hy : a.eval y = .int .i64 z) (hz : z = k) (hk : k < n) (hat : off + 5 * k = at')
    (h : wpList Try.prog ops Q rest (a.put o.dst (.pointer (some ⟨b, at', none⟩))) w) : wpList Try.prog ops Q (o :: rest) a w :=
  wpList_plain hgd fun _ hK => by
    subst hat
    unfold Oper.wp execOp
    simp only [ho, hx, hy, Sem.run_bind, run_indexK b off n c k z hz hk, Result.andThen_ok]
    exact hK _ _ h
set_option maxRecDepth 100000 in
set_option maxHeartbeats 8000000 in
theorem walk (w : World) (a0 : Option Addr) (len0 cap0 : Nat) (l0 : List Cl) (w0 : Cls w a0 len0 l0) (a1 : Int) (w1 : (Lit.int .i64 a1).wf = true) :
    Calls Try.prog 7 #[.slice a0 len0 cap0, .int .i64 a1] w fun e w' => e = .returned (.bool true) ∧ Below w.heap.size w w' := by
  have ha1 := bounds_i64 w1
  have HC := Lib.hid w0
  by_cases hl : longC l0 = true
  · have HLo := Lib.hid (fun w h => long_is a0 len0 cap0 l0 true w h hl)
    clear w0 hl w1 ha1
    go_enter Try.func7, Try.ntmps7
    go_wp2_with (first
      | (go_at_call 10; refine (HLo.out _ HC.out).mono ?_; rintro e1 w1 ⟨rfl, rfl⟩)
      | (go_at_call 11; refine (awake_any _).mono ?_; rintro e2 w2 ⟨rfl, hb2⟩))
    go_ret
    exact ⟨rfl, hb2⟩
  have hl' : longC l0 = false := by simpa using hl
  have HLo := Lib.hid (fun w h => long_is a0 len0 cap0 l0 false w h hl')
  by_cases hn : a1 < 0
  · clear w0 hl w1 ha1 hl'
    go_enter Try.func7, Try.ntmps7
    go_wp2_with (first
      | (go_at_call 10; refine (HLo.out _ HC.out).mono ?_; rintro e1 w1 ⟨rfl, rfl⟩)
      | (go_at_call 11; refine (awake_any _).mono ?_; rintro e2 w2 ⟨rfl, hb2⟩))
    go_ret
    exact ⟨rfl, hb2⟩
  obtain ⟨n, rfl⟩ := Int.eq_ofNat_of_zero_le (show 0 ≤ a1 by omega)
  have hnI : ¬ (n : Int) < 0 := hn
  obtain ⟨hl60, hlb⟩ := longC_no hl'
  have hlen := w0.1
  have HL5 := Lib.hid (fun x (hx : x ∈ l0) => (hlb x hx).1)
  have hm1 : len0 ≤ 60 := by omega
  have HFu := Lib.hid (fun g F w h => Fuse_any (S := Tp.new) g (n : Int) F w h (by omega))
  obtain ⟨S1, hS1⟩ : ∃ S1, Tp.new.fuseT (n : Int) = S1 := ⟨_, rfl⟩
  have ok1 : S1.ok 0 := by rw [← hS1]; exact fuse_ok (n : Int) (ok_new 0)
  have lt1 : S1.lit ∧ (0 : Int) + S1.fuse = (n : Int) := by
    rw [← hS1]
    unfold Tp.fuseT Tp.lit
    refine ⟨⟨?_, fun e => by cases e⟩, ?_⟩ <;> simp only <;> omega
  rw [hS1] at HFu
  have HS1 := Lib.hid (And.intro ok1 lt1)
  clear w0 hl w1 ha1 hl' hn hl60 hlb hlen hS1 ok1 lt1
  go_enter Try.func7, Try.ntmps7
  go_wp2_with (first
    | (go_at_call 10; refine (HLo.out _ HC.out).mono ?_; rintro e0 w0 ⟨rfl, rfl⟩)
    | (go_at_call 12; refine (New_any _).mono ?_; rintro e1 w1 ⟨g, rfl, hg, ht1, hb1⟩; have HT1 := Lib.hid ht1; clear ht1)
    | (go_at_call 28; refine (HFu.out g _ w1 HT1.out).mono ?_; rintro e2 w2 ⟨rfl, ht2, ho2⟩; have HT2 := Lib.hid ht2; have b2 := hb1.trans (ho2.below (fun b (q : b = g) => by rw [q]; exact hg) hb1.size); clear ht2 ho2))
  go_loopw [6, 7] (fun s x wr => ∃ (k st : Nat) (T : Tp) (F : Nat → Nat → Prop), k ≤ len0 ∧ x = .int .i64 (k : Int) ∧ s = .int .i64 (st : Int) ∧ Hid (Tap wr g F T) ∧ Hid (T.ok (501 * k)) ∧ Hid T.lit ∧ Hid ((st : Int) + T.fuse = (n : Int)) ∧ st ≤ 500 * k ∧ Hid (∀ b, Foot g F b → w.heap.size ≤ b) ∧ Below w.heap.size w wr) (fun _ x _ => len0 - (intOf x).toNat)
  case atStart => exact ⟨0, 0, S1, fun _ _ => False, Nat.zero_le _, rfl, rfl, HT2, Lib.hid HS1.out.1, Lib.hid HS1.out.2.1, Lib.hid HS1.out.2.2, Nat.zero_le _, Lib.hid (fun b q => q.elim (fun q => by rw [q]; exact hg) (fun ⟨_, q⟩ => q.elim)), b2⟩
  case round =>
    obtain ⟨k, st, S, F, hk, rfl, rfl, HT, HOK, HLt, HSum, hst, HF, hb⟩ := hrel
    by_cases hlt : k < len0
    · obtain ⟨x, b, off, T, m, c1, I, p, d, hx, rfl, hbl, hr, hB, hmc, _, hni⟩ := (HC.out.below hb).get hlt
      have hb5 := HL5.out x (List.mem_of_getElem? hx)
      have HR := Lib.hid hr
      have HB := Lib.hid hB
      have hm : m ≤ 500 := by have := hB.1; omega
      have hml : x.b.length = m := hB.1
      obtain ⟨ki, fi, ni, l, kept⟩ := x
      simp only at HR HB hml
      have hK : 501 * k ≤ 30060 := by omega
      have hoN : S.openN fi ≤ 501 * k := by
        unfold Tp.openN
        split
        · exact (HOK.out _).2
        · omega
      have HOs := Lib.hid (fun w h => Open_any (S := S) g fi F w h)
      obtain ⟨o1, ho1⟩ : ∃ o1, S.openN fi = o1 := ⟨_, rfl⟩
      rw [ho1] at HOs hoN
      clear hr hB hx hb5
      by_cases h0 : ki = 0
      · subst h0
        obtain ⟨d1, q1, q2, q3, q4⟩ := append_lit (S := S) fi l HLt.out
        have HOk1 := Lib.hid (append_ok fi l HOK.out)
        have HApp := Lib.hid (fun A c F w h hB hA => App_any (S := S) g (501 * k) m c fi A l F w h HOK.out (by omega) hB hA)
        obtain ⟨S', hS'⟩ : ∃ S', (S.append fi l).1 = S' := ⟨_, rfl⟩
        obtain ⟨E, hE⟩ : ∃ E, (S.append fi l).2 = E := ⟨_, rfl⟩
        unfold Did at HApp
        rw [hS', hE] at HApp
        rw [hS'] at q2 q3 HOk1
        rw [hS', hE] at q4
        obtain ⟨o2, ho2⟩ : ∃ o2, S'.openN fi = o2 := ⟨_, rfl⟩
        rw [ho2, ho1] at q3
        have HO2 := Lib.hid ho2
        obtain ⟨s2, hs2⟩ : ∃ s2, st + d1 = s2 := ⟨_, rfl⟩
        have hsum := HSum.out
        have hs2n : (s2 : Int) + S'.fuse = (n : Int) := by have := q2.2; omega
        have hd500 : d1 ≤ 500 := by omega
        have HSUB := Lib.hid (show wrap64 ((o2 : Int) - (o1 : Int)) = (d1 : Int) by unfold wrap64; omega)
        have HADD := Lib.hid (show wrap64 ((st : Int) + (d1 : Int)) = (s2 : Int) by unfold wrap64; omega)
        have hgt1 : decide (n < s2) = false := by have := q2.1.1; simp; omega
        have hgt2 : decide ((n : Int) < (s2 : Int)) = false := by have := q2.1.1; simp; omega
        have HS2B := Lib.hid (show s2 ≤ 500 * (k + 1) by omega)
        have HOkN := Lib.hid (show S'.ok (501 * (k + 1)) from HOk1.out.mono (by omega))
        have HLt' := Lib.hid q2.1
        have HS2 := Lib.hid hs2n
        have hne : S'.down = true → ((s2 : Int) != (n : Int)) = false := fun e => by have := q2.1.2 e; simp; omega
        have q4' := q4
        clear q4 hsum hs2n ho2 hs2 hst hd500 hoN
        clear q1 q2 q3 hS' hE
        have tok2 : Hid True := Lib.hid trivial
        go_wp2_with (first
          | (with_reducible refine wpList_indexK0 rfl (.tmp 29) (.tmp 30) rfl b off len0 cap0 k _ _ rfl rfl rfl hlt rfl ?_)
          | (with_reducible refine wpList_loadK rfl (.tmp 31) rfl b (off + 5 * k) 0 fi ni T m c1 I p d rfl HR.out ?_)
          | (with_reducible refine wpList_allocK rfl rfl ?_; intro gc w2 hgc hrc hbc; have HRc := Lib.hid hrc; clear hrc)
          | (with_reducible refine wpList_store_row Try.agg32 rfl (.tmp 8) (.tmp 32) rfl _ (clC 0 fi ni T m c1 I p d) rfl rfl 32 cl0 HRc.out (clC_size _ _ _ _ _ _ _ _ _) cl0_size (clC_one _ _ _ _ _ _ _ _ _) ?_; intro w3 hr3 ho3; obtain ⟨q0, q1, q2, q3, q4⟩ := cl_cells hr3; have b3 : Below wr.heap.size wr w3 := hbc.trans (ho3.below hgc hbc.size); have HR3 := Lib.hid hr3; have HT3 := Lib.hid (HT.out.below b3); clear hr3)
          | (go_at_call 26; have _t := tok2; refine (HOs.out w3 HT3.out).mono ?_; rintro e5 w5 ⟨rfl, rfl⟩; clear _t tok2))
        refine cutR (fun a a' w' => ∃ (A4 : Option Addr) (c4 : Nat) (wo : World), a' = ((((((((a.put (some 41) (.pointer (some ⟨g, 0, none⟩))).put (some 42) (.pointer (some ⟨gc, 1, none⟩))).put (some 43) (.int .i64 fi)).put (some 44) (.pointer (some ⟨gc, 3, none⟩))).put (some 45) (.slice T m c1)).put (some 46) (.slice A4 m c4)).put (some 47) (.int .i64 E)).put (some 10) (.int .i64 E)) ∧ Below w3.heap.size w3 wo ∧ Grow wo g F S' w') ?_ ?_
        · have B0 : Below w3.heap.size w3 w3.drew := (Below.refl w3.heap.size w3).drew
          refine wp_region_noPanic ?_
          refine wp_region_held_drew (S := fun w' => Row w' gc 32 (clC 0 fi ni T m c1 I p d)) (by kernel_rfl) HR3.out (fun hHeld => ?_)
          refine takeD (i := 0) (some 41) (.pointer (some ⟨g, 0, none⟩)) rfl rfl (by kernel_rfl) (by kernel_rfl) (by kernel_rfl) (fun _ _ _ h => h) (Or.inl ⟨by rfl, fun _ _ => rfl⟩) hHeld ?_
          simp only [Act.put, List.setIfInBounds_toArray, List.set_cons_zero, List.set_cons_succ]
          refine takeD (i := 1) (some 42) (.pointer (some ⟨gc, 1, none⟩)) rfl rfl (by kernel_rfl) (by kernel_rfl) (by kernel_rfl) (fun _ _ _ h => h) (yields_fld32 (by rfl) (.tmp 8) 1 rfl (by decide) gc 0 _ rfl rfl) hHeld ?_
          simp only [Act.put, List.setIfInBounds_toArray, List.set_cons_zero, List.set_cons_succ]
          refine takeD (i := 2) (some 43) (.int .i64 fi) rfl rfl (by kernel_rfl) (by kernel_rfl) (by kernel_rfl) (fun _ _ _ h => h) (yields_cell (by rfl) 3 (.tmp 42) rfl (by decide) gc 1 _ rfl (fun _ h => (cl_cells h).2.1)) hHeld ?_
          simp only [Act.put, List.setIfInBounds_toArray, List.set_cons_zero, List.set_cons_succ]
          refine takeD (i := 3) (some 44) (.pointer (some ⟨gc, 3, none⟩)) rfl rfl (by kernel_rfl) (by kernel_rfl) (by kernel_rfl) (fun _ _ _ h => h) (yields_fld32 (by rfl) (.tmp 8) 3 rfl (by decide) gc 0 _ rfl rfl) hHeld ?_
          simp only [Act.put, List.setIfInBounds_toArray, List.set_cons_zero, List.set_cons_succ]
          refine takeD (i := 4) (some 45) (.slice T m c1) rfl rfl (by kernel_rfl) (by kernel_rfl) (by kernel_rfl) (fun _ _ _ h => h) (yields_loadV (by rfl) 29 (.tmp 44) rfl (by decide) gc 3 _ rfl (fun _ h => (cl_cells h).2.2.2.1)) hHeld ?_
          simp only [Act.put, List.setIfInBounds_toArray, List.set_cons_zero, List.set_cons_succ]
          refine wpAnyH_ready (rs := [5]) (by kernel_rfl) (by decide) ?_
          refine AllReadyH.cons rfl (fun K' hK => ?_) AllReadyH.nil
          go_simp
          refine (ownB_any T m c1 l w3.drew (HB.out.below (b3.trans (B0.mono b3.size))) (by omega)).mono ?_
          rintro e4 wo ⟨A4, c4, rfl, hc4, ho4, hb4⟩
          have HO4 := Lib.hid ho4
          have Bo : Below w3.heap.size w3 wo := B0.trans hb4
          clear ho4 hb4
          refine hK.out _ _ (HR3.out.below Bo HR3.out.lt) (fun hHeld1 => ?_)
          clear hK
          (try simp only [Act.put, List.setIfInBounds_toArray, List.set_cons_zero, List.set_cons_succ])
          refine wpAnyH_ready (rs := [6]) (by kernel_rfl) (by decide) ?_
          refine AllReadyH.cons rfl (fun K' hK => ?_) AllReadyH.nil
          go_simp
          refine (HApp.out A4 c4 F wo (HT3.out.below Bo) HO4.out.bs (own_foot HT3.out (show Own wo w3.heap.size 5 _ _ _ from HO4.out))).mono ?_
          rintro e5 w5 ⟨rfl, hg5⟩
          have HG5 := Lib.hid hg5
          clear hg5
          refine hK.out _ _ ((HG5.out.2.block gc (Nat.lt_of_lt_of_le HR3.out.lt Bo.size) (fun q => by have := HT.out.foot q; omega)).trans (HR3.out.below Bo HR3.out.lt)) (fun hHeld2 => ?_)
          clear hK
          (try simp only [Act.put, List.setIfInBounds_toArray, List.set_cons_zero, List.set_cons_succ])
          refine takeD (i := 7) (some 10) (.int .i64 E) rfl rfl (by kernel_rfl) (by kernel_rfl) (by kernel_rfl) (fun _ _ _ h => h) (Or.inl ⟨by rfl, fun _ _ => rfl⟩) hHeld2 ?_
          (try simp only [Act.put, List.setIfInBounds_toArray, List.set_cons_zero, List.set_cons_succ])
          refine wpAnyH_done (by kernel_rfl) ?_ _
          refine NoPanic.normal ?_
          exact ⟨rfl, A4, c4, wo, rfl, Bo, HG5.out⟩
        · rintro a' w4 ⟨A4, c4, wo, rfl, bo, hg4⟩
          simp only [Act.put, List.setIfInBounds_toArray, List.set_cons_zero, List.set_cons_succ]
          have HG4 := Lib.hid hg4
          obtain ⟨⟨F4, hF4, ht4⟩, ho4⟩ := hg4
          have bo2 : Below wr.heap.size wr wo := b3.trans (bo.mono b3.size)
          have bw := hb.trans (bo2.mono hb.size)
          have HT4 := Lib.hid ht4
          have HF4 := Lib.hid (fun b' q => (hF4.foot b' q).elim (HF.out b') (fun q2 => by have := hb.size; have := bo2.size; omega))
          have b4 : Below w.heap.size w w4 := bw.trans (ho4.below HF.out bw.size)
          have HRc4 := (ho4.block gc (Nat.lt_of_lt_of_le HR3.out.lt bo.size) (fun q => by have := HT.out.foot q; omega)).trans (HR3.out.below bo HR3.out.lt)
          obtain ⟨q0, q1, q2, q3, q4⟩ := cl_cells (w := w4) HRc4
          have HO4 := Lib.hid (fun w h => show Calls Try.prog 26 #[.pointer (some ⟨g, 0, none⟩), .int .i64 fi] w (fun e w' => e = .returned (.int .i64 (o2 : Int)) ∧ w = w') from by have q := Open_any (S := S') g fi F4 w h; rw [HO2.out] at q; exact q)
          have HD4 := Lib.hid (fun w h => Down_any (S := S') g F4 w h)
          clear hF4 ht4 ho4 HRc4 hK hm hml hmc hbl
          cases hD : S'.down
          · have hEE : (E == 100) = false := by rw [q4', hD]; simp
            rw [hD] at HD4
            clear hne q4' hD
            have hsub := HSUB.out
            have hadd := HADD.out
            go_wp2_with (first
              | (go_at_call 26; refine (HO4.out w4 HT4.out).mono ?_; rintro e5 w5 ⟨rfl, rfl⟩)
              | (go_at_call 17; refine (HD4.out w4 HT4.out).mono ?_; rintro e6 w6 ⟨rfl, rfl⟩)
              | (go_at_call 19; refine (HI.out _).mono ?_; rintro e7 w7 ⟨rfl, rfl⟩))
            go_roundw
            case rel => clear hsub hadd; exact ⟨k + 1, s2, S', F4, by omega, by go_num, rfl, Lib.hid (HT4.out), HOkN, HLt', HS2, HS2B.out, HF4, b4⟩
            case measure => clear hsub hadd; simp [intOf]; omega
          · by_cases hI : isF fi
            · have HI := Lib.hid (fun w => is_yes hI w)
              have hEE : (E == 100) = true := by rw [q4', hD]; simp [hI]
              rw [hD] at HD4
              have hne' := hne hD
              clear hne q4' hI hD
              have hsub := HSUB.out
              have hadd := HADD.out
              go_wp2_with (first
                | (go_at_call 26; refine (HO4.out w4 HT4.out).mono ?_; rintro e5 w5 ⟨rfl, rfl⟩)
                | (go_at_call 17; refine (HD4.out w4 HT4.out).mono ?_; rintro e6 w6 ⟨rfl, rfl⟩)
                | (go_at_call 19; refine (HI.out _).mono ?_; rintro e7 w7 ⟨rfl, rfl⟩))
              go_roundw
              case rel => clear hsub hadd; exact ⟨k + 1, s2, S', F4, by omega, by go_num, rfl, Lib.hid (HT4.out), HOkN, HLt', HS2, HS2B.out, HF4, b4⟩
              case measure => clear hsub hadd; simp [intOf]; omega
            · have HI := Lib.hid (fun w => is_no hI w)
              have hEE : (E == 100) = false := by rw [q4', hD]; simp [hI]
              rw [hD] at HD4
              have hne' := hne hD
              clear hne q4' hI hD
              have hsub := HSUB.out
              have hadd := HADD.out
              go_wp2_with (first
                | (go_at_call 26; refine (HO4.out w4 HT4.out).mono ?_; rintro e5 w5 ⟨rfl, rfl⟩)
                | (go_at_call 17; refine (HD4.out w4 HT4.out).mono ?_; rintro e6 w6 ⟨rfl, rfl⟩)
                | (go_at_call 19; refine (HI.out _).mono ?_; rintro e7 w7 ⟨rfl, rfl⟩))
              go_roundw
              case rel => clear hsub hadd; exact ⟨k + 1, s2, S', F4, by omega, by go_num, rfl, Lib.hid (HT4.out), HOkN, HLt', HS2, HS2B.out, HF4, b4⟩
              case measure => clear hsub hadd; simp [intOf]; omega
      · by_cases h1 : ki = 1
        · subst h1
          obtain ⟨d1, q1, q2, q3⟩ := cut_lit (S := S) fi ni HLt.out
          have HOk1 := Lib.hid (cut_ok fi ni HOK.out)
          have HApp := Lib.hid (fun F w h => Cut_any (S := S) g (501 * k) fi ni F w h HOK.out (by omega))
          obtain ⟨S', hS'⟩ : ∃ S', (S.cutT fi ni).1 = S' := ⟨_, rfl⟩
          obtain ⟨E, hE⟩ : ∃ E, (S.cutT fi ni).2 = E := ⟨_, rfl⟩
          unfold Did at HApp
          rw [hS', hE] at HApp
          rw [hS'] at q2 q3 HOk1
          obtain ⟨o2, ho2⟩ : ∃ o2, S'.openN fi = o2 := ⟨_, rfl⟩
          rw [ho2, ho1] at q3
          have HO2 := Lib.hid ho2
          obtain ⟨s2, hs2⟩ : ∃ s2, st + d1 = s2 := ⟨_, rfl⟩
          have hsum := HSum.out
          have hs2n : (s2 : Int) + S'.fuse = (n : Int) := by have := q2.2; omega
          have hd500 : d1 ≤ 500 := by omega
          have HSUB := Lib.hid (show wrap64 ((o2 : Int) - (o1 : Int)) = (d1 : Int) by unfold wrap64; omega)
          have HADD := Lib.hid (show wrap64 ((st : Int) + (d1 : Int)) = (s2 : Int) by unfold wrap64; omega)
          have hgt1 : decide (n < s2) = false := by have := q2.1.1; simp; omega
          have hgt2 : decide ((n : Int) < (s2 : Int)) = false := by have := q2.1.1; simp; omega
          have HS2B := Lib.hid (show s2 ≤ 500 * (k + 1) by omega)
          have HOkN := Lib.hid (show S'.ok (501 * (k + 1)) from HOk1.out.mono (by omega))
          have HLt' := Lib.hid q2.1
          have HS2 := Lib.hid hs2n
          have hne : S'.down = true → ((s2 : Int) != (n : Int)) = false := fun e => by have := q2.1.2 e; simp; omega
          clear hsum hs2n ho2 hs2 hst hd500 hoN
          clear q1 q2 q3 hS' hE h0 hK hm hml hmc
          cases hD : S'.down
          · have HD4 := Lib.hid (fun F w h => show Calls Try.prog 17 #[.pointer (some ⟨g, 0, none⟩)] w (fun e w' => e = .returned (.bool false) ∧ w = w') from by have q := Down_any (S := S') g F w h; rw [hD] at q; exact q)
            have HO4 := Lib.hid (fun F w h => show Calls Try.prog 26 #[.pointer (some ⟨g, 0, none⟩), .int .i64 fi] w (fun e w' => e = .returned (.int .i64 (o2 : Int)) ∧ w = w') from by have q := Open_any (S := S') g fi F w h; rw [HO2.out] at q; exact q)
            clear hne hD
            have tok2 : Hid True := Lib.hid trivial
            cases hEE : (E == 100)
            · have hsub := HSUB.out
              have hadd := HADD.out
              go_wp2_with (first
                | (with_reducible refine wpList_indexK0 rfl (.tmp 29) (.tmp 30) rfl b off len0 cap0 k _ _ rfl rfl rfl hlt rfl ?_)
                | (with_reducible refine wpList_loadK rfl (.tmp 31) rfl b (off + 5 * k) 1 fi ni T m c1 I p d rfl HR.out ?_)
                | (with_reducible refine wpList_allocK rfl rfl ?_; intro gc w2 hgc hrc hbc; have HRc := Lib.hid hrc; clear hrc)
                | (with_reducible refine wpList_store_row Try.agg32 rfl (.tmp 8) (.tmp 32) rfl _ (clC 1 fi ni T m c1 I p d) rfl rfl 32 cl0 HRc.out (clC_size _ _ _ _ _ _ _ _ _) cl0_size (clC_one _ _ _ _ _ _ _ _ _) ?_; intro w3 hr3 ho3; obtain ⟨q0, q1, q2, q3, q4⟩ := cl_cells hr3; have b3 : Below wr.heap.size wr w3 := hbc.trans (ho3.below hgc hbc.size); have HR3 := Lib.hid hr3; have HT3 := Lib.hid (HT.out.below b3); clear hr3)
                | (go_at_call 26; have _t := tok2; refine (HOs.out w3 HT3.out).mono ?_; rintro e5 w5 ⟨rfl, rfl⟩; clear _t tok2)
                | (go_at_call 27; refine (HApp.out F w3 HT3.out).mono ?_; rintro e8 w4 ⟨rfl, ⟨F4, hF4, ht4⟩, ho4⟩; have HT4 := Lib.hid ht4; have HF4 := Lib.hid (fun b' q => (hF4.foot b' q).elim (HF.out b') (fun q2 => Nat.le_trans (Nat.le_trans hb.size b3.size) q2)); have HRc4 := (ho4.block gc HR3.out.lt (fun q => absurd (HT.out.foot q) (Nat.not_lt_of_le hgc))).trans HR3.out; obtain ⟨r0, r1, r2, r3, r4⟩ := cl_cells (w := w4) HRc4; have b4 := (hb.trans (b3.mono hb.size)).trans (ho4.below HF.out (hb.trans (b3.mono hb.size)).size); clear hF4 ht4 ho4 HRc4)
                | (go_at_call 26; refine (HO4.out F4 w4 HT4.out).mono ?_; rintro e5 w5 ⟨rfl, rfl⟩)
                | (go_at_call 17; refine (HD4.out F4 w4 HT4.out).mono ?_; rintro e6 w6 ⟨rfl, rfl⟩)
                | (go_at_call 19; refine (HI.out _).mono ?_; rintro e7 w7 ⟨rfl, rfl⟩))
              go_roundw
              case rel => clear hsub hadd; exact ⟨k + 1, s2, S', F4, by omega, by go_num, rfl, Lib.hid (HT4.out), HOkN, HLt', HS2, HS2B.out, HF4, b4⟩
              case measure => clear hsub hadd; simp [intOf]; omega
            · have hsub := HSUB.out
              have hadd := HADD.out
              go_wp2_with (first
                | (with_reducible refine wpList_indexK0 rfl (.tmp 29) (.tmp 30) rfl b off len0 cap0 k _ _ rfl rfl rfl hlt rfl ?_)
                | (with_reducible refine wpList_loadK rfl (.tmp 31) rfl b (off + 5 * k) 1 fi ni T m c1 I p d rfl HR.out ?_)
                | (with_reducible refine wpList_allocK rfl rfl ?_; intro gc w2 hgc hrc hbc; have HRc := Lib.hid hrc; clear hrc)
                | (with_reducible refine wpList_store_row Try.agg32 rfl (.tmp 8) (.tmp 32) rfl _ (clC 1 fi ni T m c1 I p d) rfl rfl 32 cl0 HRc.out (clC_size _ _ _ _ _ _ _ _ _) cl0_size (clC_one _ _ _ _ _ _ _ _ _) ?_; intro w3 hr3 ho3; obtain ⟨q0, q1, q2, q3, q4⟩ := cl_cells hr3; have b3 : Below wr.heap.size wr w3 := hbc.trans (ho3.below hgc hbc.size); have HR3 := Lib.hid hr3; have HT3 := Lib.hid (HT.out.below b3); clear hr3)
                | (go_at_call 26; have _t := tok2; refine (HOs.out w3 HT3.out).mono ?_; rintro e5 w5 ⟨rfl, rfl⟩; clear _t tok2)
                | (go_at_call 27; refine (HApp.out F w3 HT3.out).mono ?_; rintro e8 w4 ⟨rfl, ⟨F4, hF4, ht4⟩, ho4⟩; have HT4 := Lib.hid ht4; have HF4 := Lib.hid (fun b' q => (hF4.foot b' q).elim (HF.out b') (fun q2 => Nat.le_trans (Nat.le_trans hb.size b3.size) q2)); have HRc4 := (ho4.block gc HR3.out.lt (fun q => absurd (HT.out.foot q) (Nat.not_lt_of_le hgc))).trans HR3.out; obtain ⟨r0, r1, r2, r3, r4⟩ := cl_cells (w := w4) HRc4; have b4 := (hb.trans (b3.mono hb.size)).trans (ho4.below HF.out (hb.trans (b3.mono hb.size)).size); clear hF4 ht4 ho4 HRc4)
                | (go_at_call 26; refine (HO4.out F4 w4 HT4.out).mono ?_; rintro e5 w5 ⟨rfl, rfl⟩)
                | (go_at_call 17; refine (HD4.out F4 w4 HT4.out).mono ?_; rintro e6 w6 ⟨rfl, rfl⟩)
                | (go_at_call 19; refine (HI.out _).mono ?_; rintro e7 w7 ⟨rfl, rfl⟩))
              go_roundw
              case rel => clear hsub hadd; exact ⟨k + 1, s2, S', F4, by omega, by go_num, rfl, Lib.hid (HT4.out), HOkN, HLt', HS2, HS2B.out, HF4, b4⟩
              case measure => clear hsub hadd; simp [intOf]; omega
          · by_cases hI : isF fi
            · have HI := Lib.hid (fun w => is_yes hI w)
              have HD4 := Lib.hid (fun F w h => show Calls Try.prog 17 #[.pointer (some ⟨g, 0, none⟩)] w (fun e w' => e = .returned (.bool true) ∧ w = w') from by have q := Down_any (S := S') g F w h; rw [hD] at q; exact q)
              have HO4 := Lib.hid (fun F w h => show Calls Try.prog 26 #[.pointer (some ⟨g, 0, none⟩), .int .i64 fi] w (fun e w' => e = .returned (.int .i64 (o2 : Int)) ∧ w = w') from by have q := Open_any (S := S') g fi F w h; rw [HO2.out] at q; exact q)
              have hne' := hne hD
              clear hne hI hD
              have tok2 : Hid True := Lib.hid trivial
              cases hEE : (E == 100)
              · have hsub := HSUB.out
                have hadd := HADD.out
                go_wp2_with (first
                  | (with_reducible refine wpList_indexK0 rfl (.tmp 29) (.tmp 30) rfl b off len0 cap0 k _ _ rfl rfl rfl hlt rfl ?_)
                  | (with_reducible refine wpList_loadK rfl (.tmp 31) rfl b (off + 5 * k) 1 fi ni T m c1 I p d rfl HR.out ?_)
                  | (with_reducible refine wpList_allocK rfl rfl ?_; intro gc w2 hgc hrc hbc; have HRc := Lib.hid hrc; clear hrc)
                  | (with_reducible refine wpList_store_row Try.agg32 rfl (.tmp 8) (.tmp 32) rfl _ (clC 1 fi ni T m c1 I p d) rfl rfl 32 cl0 HRc.out (clC_size _ _ _ _ _ _ _ _ _) cl0_size (clC_one _ _ _ _ _ _ _ _ _) ?_; intro w3 hr3 ho3; obtain ⟨q0, q1, q2, q3, q4⟩ := cl_cells hr3; have b3 : Below wr.heap.size wr w3 := hbc.trans (ho3.below hgc hbc.size); have HR3 := Lib.hid hr3; have HT3 := Lib.hid (HT.out.below b3); clear hr3)
                  | (go_at_call 26; have _t := tok2; refine (HOs.out w3 HT3.out).mono ?_; rintro e5 w5 ⟨rfl, rfl⟩; clear _t tok2)
                  | (go_at_call 27; refine (HApp.out F w3 HT3.out).mono ?_; rintro e8 w4 ⟨rfl, ⟨F4, hF4, ht4⟩, ho4⟩; have HT4 := Lib.hid ht4; have HF4 := Lib.hid (fun b' q => (hF4.foot b' q).elim (HF.out b') (fun q2 => Nat.le_trans (Nat.le_trans hb.size b3.size) q2)); have HRc4 := (ho4.block gc HR3.out.lt (fun q => absurd (HT.out.foot q) (Nat.not_lt_of_le hgc))).trans HR3.out; obtain ⟨r0, r1, r2, r3, r4⟩ := cl_cells (w := w4) HRc4; have b4 := (hb.trans (b3.mono hb.size)).trans (ho4.below HF.out (hb.trans (b3.mono hb.size)).size); clear hF4 ht4 ho4 HRc4)
                  | (go_at_call 26; refine (HO4.out F4 w4 HT4.out).mono ?_; rintro e5 w5 ⟨rfl, rfl⟩)
                  | (go_at_call 17; refine (HD4.out F4 w4 HT4.out).mono ?_; rintro e6 w6 ⟨rfl, rfl⟩)
                  | (go_at_call 19; refine (HI.out _).mono ?_; rintro e7 w7 ⟨rfl, rfl⟩))
                go_roundw
                case rel => clear hsub hadd; exact ⟨k + 1, s2, S', F4, by omega, by go_num, rfl, Lib.hid (HT4.out), HOkN, HLt', HS2, HS2B.out, HF4, b4⟩
                case measure => clear hsub hadd; simp [intOf]; omega
              · have hsub := HSUB.out
                have hadd := HADD.out
                go_wp2_with (first
                  | (with_reducible refine wpList_indexK0 rfl (.tmp 29) (.tmp 30) rfl b off len0 cap0 k _ _ rfl rfl rfl hlt rfl ?_)
                  | (with_reducible refine wpList_loadK rfl (.tmp 31) rfl b (off + 5 * k) 1 fi ni T m c1 I p d rfl HR.out ?_)
                  | (with_reducible refine wpList_allocK rfl rfl ?_; intro gc w2 hgc hrc hbc; have HRc := Lib.hid hrc; clear hrc)
                  | (with_reducible refine wpList_store_row Try.agg32 rfl (.tmp 8) (.tmp 32) rfl _ (clC 1 fi ni T m c1 I p d) rfl rfl 32 cl0 HRc.out (clC_size _ _ _ _ _ _ _ _ _) cl0_size (clC_one _ _ _ _ _ _ _ _ _) ?_; intro w3 hr3 ho3; obtain ⟨q0, q1, q2, q3, q4⟩ := cl_cells hr3; have b3 : Below wr.heap.size wr w3 := hbc.trans (ho3.below hgc hbc.size); have HR3 := Lib.hid hr3; have HT3 := Lib.hid (HT.out.below b3); clear hr3)
                  | (go_at_call 26; have _t := tok2; refine (HOs.out w3 HT3.out).mono ?_; rintro e5 w5 ⟨rfl, rfl⟩; clear _t tok2)
                  | (go_at_call 27; refine (HApp.out F w3 HT3.out).mono ?_; rintro e8 w4 ⟨rfl, ⟨F4, hF4, ht4⟩, ho4⟩; have HT4 := Lib.hid ht4; have HF4 := Lib.hid (fun b' q => (hF4.foot b' q).elim (HF.out b') (fun q2 => Nat.le_trans (Nat.le_trans hb.size b3.size) q2)); have HRc4 := (ho4.block gc HR3.out.lt (fun q => absurd (HT.out.foot q) (Nat.not_lt_of_le hgc))).trans HR3.out; obtain ⟨r0, r1, r2, r3, r4⟩ := cl_cells (w := w4) HRc4; have b4 := (hb.trans (b3.mono hb.size)).trans (ho4.below HF.out (hb.trans (b3.mono hb.size)).size); clear hF4 ht4 ho4 HRc4)
                  | (go_at_call 26; refine (HO4.out F4 w4 HT4.out).mono ?_; rintro e5 w5 ⟨rfl, rfl⟩)
                  | (go_at_call 17; refine (HD4.out F4 w4 HT4.out).mono ?_; rintro e6 w6 ⟨rfl, rfl⟩)
                  | (go_at_call 19; refine (HI.out _).mono ?_; rintro e7 w7 ⟨rfl, rfl⟩))
                go_roundw
                case rel => clear hsub hadd; exact ⟨k + 1, s2, S', F4, by omega, by go_num, rfl, Lib.hid (HT4.out), HOkN, HLt', HS2, HS2B.out, HF4, b4⟩
                case measure => clear hsub hadd; simp [intOf]; omega
            · have HI := Lib.hid (fun w => is_no hI w)
              have HD4 := Lib.hid (fun F w h => show Calls Try.prog 17 #[.pointer (some ⟨g, 0, none⟩)] w (fun e w' => e = .returned (.bool true) ∧ w = w') from by have q := Down_any (S := S') g F w h; rw [hD] at q; exact q)
              have HO4 := Lib.hid (fun F w h => show Calls Try.prog 26 #[.pointer (some ⟨g, 0, none⟩), .int .i64 fi] w (fun e w' => e = .returned (.int .i64 (o2 : Int)) ∧ w = w') from by have q := Open_any (S := S') g fi F w h; rw [HO2.out] at q; exact q)
              have hne' := hne hD
              clear hne hI hD
              have tok2 : Hid True := Lib.hid trivial
              cases hEE : (E == 100)
              · have hsub := HSUB.out
                have hadd := HADD.out
                go_wp2_with (first
                  | (with_reducible refine wpList_indexK0 rfl (.tmp 29) (.tmp 30) rfl b off len0 cap0 k _ _ rfl rfl rfl hlt rfl ?_)
                  | (with_reducible refine wpList_loadK rfl (.tmp 31) rfl b (off + 5 * k) 1 fi ni T m c1 I p d rfl HR.out ?_)
                  | (with_reducible refine wpList_allocK rfl rfl ?_; intro gc w2 hgc hrc hbc; have HRc := Lib.hid hrc; clear hrc)
                  | (with_reducible refine wpList_store_row Try.agg32 rfl (.tmp 8) (.tmp 32) rfl _ (clC 1 fi ni T m c1 I p d) rfl rfl 32 cl0 HRc.out (clC_size _ _ _ _ _ _ _ _ _) cl0_size (clC_one _ _ _ _ _ _ _ _ _) ?_; intro w3 hr3 ho3; obtain ⟨q0, q1, q2, q3, q4⟩ := cl_cells hr3; have b3 : Below wr.heap.size wr w3 := hbc.trans (ho3.below hgc hbc.size); have HR3 := Lib.hid hr3; have HT3 := Lib.hid (HT.out.below b3); clear hr3)
                  | (go_at_call 26; have _t := tok2; refine (HOs.out w3 HT3.out).mono ?_; rintro e5 w5 ⟨rfl, rfl⟩; clear _t tok2)
                  | (go_at_call 27; refine (HApp.out F w3 HT3.out).mono ?_; rintro e8 w4 ⟨rfl, ⟨F4, hF4, ht4⟩, ho4⟩; have HT4 := Lib.hid ht4; have HF4 := Lib.hid (fun b' q => (hF4.foot b' q).elim (HF.out b') (fun q2 => Nat.le_trans (Nat.le_trans hb.size b3.size) q2)); have HRc4 := (ho4.block gc HR3.out.lt (fun q => absurd (HT.out.foot q) (Nat.not_lt_of_le hgc))).trans HR3.out; obtain ⟨r0, r1, r2, r3, r4⟩ := cl_cells (w := w4) HRc4; have b4 := (hb.trans (b3.mono hb.size)).trans (ho4.below HF.out (hb.trans (b3.mono hb.size)).size); clear hF4 ht4 ho4 HRc4)
                  | (go_at_call 26; refine (HO4.out F4 w4 HT4.out).mono ?_; rintro e5 w5 ⟨rfl, rfl⟩)
                  | (go_at_call 17; refine (HD4.out F4 w4 HT4.out).mono ?_; rintro e6 w6 ⟨rfl, rfl⟩)
                  | (go_at_call 19; refine (HI.out _).mono ?_; rintro e7 w7 ⟨rfl, rfl⟩))
                go_roundw
                case rel => clear hsub hadd; exact ⟨k + 1, s2, S', F4, by omega, by go_num, rfl, Lib.hid (HT4.out), HOkN, HLt', HS2, HS2B.out, HF4, b4⟩
                case measure => clear hsub hadd; simp [intOf]; omega
              · have hsub := HSUB.out
                have hadd := HADD.out
                go_wp2_with (first
                  | (with_reducible refine wpList_indexK0 rfl (.tmp 29) (.tmp 30) rfl b off len0 cap0 k _ _ rfl rfl rfl hlt rfl ?_)
                  | (with_reducible refine wpList_loadK rfl (.tmp 31) rfl b (off + 5 * k) 1 fi ni T m c1 I p d rfl HR.out ?_)
                  | (with_reducible refine wpList_allocK rfl rfl ?_; intro gc w2 hgc hrc hbc; have HRc := Lib.hid hrc; clear hrc)
                  | (with_reducible refine wpList_store_row Try.agg32 rfl (.tmp 8) (.tmp 32) rfl _ (clC 1 fi ni T m c1 I p d) rfl rfl 32 cl0 HRc.out (clC_size _ _ _ _ _ _ _ _ _) cl0_size (clC_one _ _ _ _ _ _ _ _ _) ?_; intro w3 hr3 ho3; obtain ⟨q0, q1, q2, q3, q4⟩ := cl_cells hr3; have b3 : Below wr.heap.size wr w3 := hbc.trans (ho3.below hgc hbc.size); have HR3 := Lib.hid hr3; have HT3 := Lib.hid (HT.out.below b3); clear hr3)
                  | (go_at_call 26; have _t := tok2; refine (HOs.out w3 HT3.out).mono ?_; rintro e5 w5 ⟨rfl, rfl⟩; clear _t tok2)
                  | (go_at_call 27; refine (HApp.out F w3 HT3.out).mono ?_; rintro e8 w4 ⟨rfl, ⟨F4, hF4, ht4⟩, ho4⟩; have HT4 := Lib.hid ht4; have HF4 := Lib.hid (fun b' q => (hF4.foot b' q).elim (HF.out b') (fun q2 => Nat.le_trans (Nat.le_trans hb.size b3.size) q2)); have HRc4 := (ho4.block gc HR3.out.lt (fun q => absurd (HT.out.foot q) (Nat.not_lt_of_le hgc))).trans HR3.out; obtain ⟨r0, r1, r2, r3, r4⟩ := cl_cells (w := w4) HRc4; have b4 := (hb.trans (b3.mono hb.size)).trans (ho4.below HF.out (hb.trans (b3.mono hb.size)).size); clear hF4 ht4 ho4 HRc4)
                  | (go_at_call 26; refine (HO4.out F4 w4 HT4.out).mono ?_; rintro e5 w5 ⟨rfl, rfl⟩)
                  | (go_at_call 17; refine (HD4.out F4 w4 HT4.out).mono ?_; rintro e6 w6 ⟨rfl, rfl⟩)
                  | (go_at_call 19; refine (HI.out _).mono ?_; rintro e7 w7 ⟨rfl, rfl⟩))
                go_roundw
                case rel => clear hsub hadd; exact ⟨k + 1, s2, S', F4, by omega, by go_num, rfl, Lib.hid (HT4.out), HOkN, HLt', HS2, HS2B.out, HF4, b4⟩
                case measure => clear hsub hadd; simp [intOf]; omega
        · by_cases h2 : ki = 2
          · subst h2
            have HOk1 := Lib.hid (sync_ok fi HOK.out)
            have HApp := Lib.hid (fun F w h => Sync_any (S := S) g (501 * k) fi F w h HOK.out (by omega))
            have HCs := sync_lit (S := S) fi HLt.out
            obtain ⟨S', hS'⟩ : ∃ S', (S.syncT fi).1 = S' := ⟨_, rfl⟩
            obtain ⟨E, hE⟩ : ∃ E, (S.syncT fi).2 = E := ⟨_, rfl⟩
            unfold Did at HApp
            rw [hS', hE] at HApp
            rw [hS'] at HOk1
            have HCs' : (¬ isF fi ∧ E = 1 ∧ Took S S' 0) ∨ (isF fi ∧ E = 100 ∧ S'.down = true ∧ Took S S' 0) ∨ (isF fi ∧ E = 0 ∧ S'.down = false ∧ Took S S' 1) := by
              rcases HCs with ⟨r1, r2⟩ | ⟨r1, r2, r3, r4⟩ | ⟨r1, r2, r3, r4⟩
              · exact .inl ⟨r1, by rw [← hE, r2], by rw [← hS', r2]; exact Took.refl HLt.out⟩
              · exact .inr (.inl ⟨r1, by rw [← hE]; exact r2, by rw [← hS']; exact r3, by rw [← hS']; exact r4⟩)
              · exact .inr (.inr ⟨r1, by rw [← hE]; exact r2, by rw [← hS']; exact r3, by rw [← hS']; exact r4⟩)
            clear HCs hS' hE h0 h1
            rcases HCs' with ⟨r1, r2, q2⟩ | ⟨r1, r2, r3, q2⟩ | ⟨r1, r2, r3, q2⟩
            · have HI := Lib.hid (fun w => is_no r1 w)
              subst r2
              obtain ⟨d1, hd1⟩ : ∃ d1, 0 = d1 := ⟨_, rfl⟩
              rw [hd1] at q2
              obtain ⟨o2, ho2⟩ : ∃ o2, S'.openN fi = o2 := ⟨_, rfl⟩
              have HO2 := Lib.hid ho2
              obtain ⟨s2, hs2⟩ : ∃ s2, st + d1 = s2 := ⟨_, rfl⟩
              have hsum := HSum.out
              have hs2n : (s2 : Int) + S'.fuse = (n : Int) := by have := q2.2; omega
              have hd500 : d1 ≤ 500 := by omega
              have HADD := Lib.hid (show wrap64 (st : Int) = (s2 : Int) by unfold wrap64; omega)
              have hgt1 : decide (n < s2) = false := by have := q2.1.1; simp; omega
              have hgt2 : decide ((n : Int) < (s2 : Int)) = false := by have := q2.1.1; simp; omega
              have HS2B := Lib.hid (show s2 ≤ 500 * (k + 1) by omega)
              have HOkN := Lib.hid (show S'.ok (501 * (k + 1)) from HOk1.out.mono (by omega))
              have HLt' := Lib.hid q2.1
              have HS2 := Lib.hid hs2n
              have hne : S'.down = true → ((s2 : Int) != (n : Int)) = false := fun e => by have := q2.1.2 e; simp; omega
              subst hd1
              clear hsum hs2n ho2 hs2 hst hd500 hoN
              cases hD : S'.down
              · have HD4 := Lib.hid (fun F w h => show Calls Try.prog 17 #[.pointer (some ⟨g, 0, none⟩)] w (fun e w' => e = .returned (.bool false) ∧ w = w') from by have q := Down_any (S := S') g F w h; rw [hD] at q; exact q)
                clear hne hD q2 r1
                have tok2 : Hid True := Lib.hid trivial
                have hadd := HADD.out
                go_wp2_with (first
                  | (with_reducible refine wpList_indexK0 rfl (.tmp 29) (.tmp 30) rfl b off len0 cap0 k _ _ rfl rfl rfl hlt rfl ?_)
                  | (with_reducible refine wpList_loadK rfl (.tmp 31) rfl b (off + 5 * k) 2 fi ni T m c1 I p d rfl HR.out ?_)
                  | (with_reducible refine wpList_allocK rfl rfl ?_; intro gc w2 hgc hrc hbc; have HRc := Lib.hid hrc; clear hrc)
                  | (with_reducible refine wpList_store_row Try.agg32 rfl (.tmp 8) (.tmp 32) rfl _ (clC 2 fi ni T m c1 I p d) rfl rfl 32 cl0 HRc.out (clC_size _ _ _ _ _ _ _ _ _) cl0_size (clC_one _ _ _ _ _ _ _ _ _) ?_; intro w3 hr3 ho3; obtain ⟨q0, q1, q2, q3, q4⟩ := cl_cells hr3; have b3 : Below wr.heap.size wr w3 := hbc.trans (ho3.below hgc hbc.size); have HR3 := Lib.hid hr3; have HT3 := Lib.hid (HT.out.below b3); clear hr3)
                  | (go_at_call 26; have _t := tok2; refine (HOs.out w3 HT3.out).mono ?_; rintro e5 w5 ⟨rfl, rfl⟩; clear _t tok2)
                  | (go_at_call 21; refine (HApp.out F w3 HT3.out).mono ?_; rintro e8 w4 ⟨rfl, ⟨F4, hF4, ht4⟩, ho4⟩; have HT4 := Lib.hid ht4; have HF4 := Lib.hid (fun b' q => (hF4.foot b' q).elim (HF.out b') (fun q2 => Nat.le_trans (Nat.le_trans hb.size b3.size) q2)); have HRc4 := (ho4.block gc HR3.out.lt (fun q => absurd (HT.out.foot q) (Nat.not_lt_of_le hgc))).trans HR3.out; obtain ⟨r0, r1, r2, r3, r4⟩ := cl_cells (w := w4) HRc4; have b4 := (hb.trans (b3.mono hb.size)).trans (ho4.below HF.out (hb.trans (b3.mono hb.size)).size); clear hF4 ht4 ho4 HRc4)
                  | (go_at_call 17; refine (HD4.out F4 w4 HT4.out).mono ?_; rintro e6 w6 ⟨rfl, rfl⟩)
                  | (go_at_call 19; refine (HI.out _).mono ?_; rintro e7 w7 ⟨rfl, rfl⟩))
                go_roundw
                case rel => clear hadd; exact ⟨k + 1, s2, S', F4, by omega, by go_num, rfl, Lib.hid (HT4.out), HOkN, HLt', HS2, HS2B.out, HF4, b4⟩
                case measure => clear hadd; simp [intOf]; omega
              · have HD4 := Lib.hid (fun F w h => show Calls Try.prog 17 #[.pointer (some ⟨g, 0, none⟩)] w (fun e w' => e = .returned (.bool true) ∧ w = w') from by have q := Down_any (S := S') g F w h; rw [hD] at q; exact q)
                have hne' := hne hD
                clear hne hD q2 r1
                have tok2 : Hid True := Lib.hid trivial
                have hadd := HADD.out
                go_wp2_with (first
                  | (with_reducible refine wpList_indexK0 rfl (.tmp 29) (.tmp 30) rfl b off len0 cap0 k _ _ rfl rfl rfl hlt rfl ?_)
                  | (with_reducible refine wpList_loadK rfl (.tmp 31) rfl b (off + 5 * k) 2 fi ni T m c1 I p d rfl HR.out ?_)
                  | (with_reducible refine wpList_allocK rfl rfl ?_; intro gc w2 hgc hrc hbc; have HRc := Lib.hid hrc; clear hrc)
                  | (with_reducible refine wpList_store_row Try.agg32 rfl (.tmp 8) (.tmp 32) rfl _ (clC 2 fi ni T m c1 I p d) rfl rfl 32 cl0 HRc.out (clC_size _ _ _ _ _ _ _ _ _) cl0_size (clC_one _ _ _ _ _ _ _ _ _) ?_; intro w3 hr3 ho3; obtain ⟨q0, q1, q2, q3, q4⟩ := cl_cells hr3; have b3 : Below wr.heap.size wr w3 := hbc.trans (ho3.below hgc hbc.size); have HR3 := Lib.hid hr3; have HT3 := Lib.hid (HT.out.below b3); clear hr3)
                  | (go_at_call 26; have _t := tok2; refine (HOs.out w3 HT3.out).mono ?_; rintro e5 w5 ⟨rfl, rfl⟩; clear _t tok2)
                  | (go_at_call 21; refine (HApp.out F w3 HT3.out).mono ?_; rintro e8 w4 ⟨rfl, ⟨F4, hF4, ht4⟩, ho4⟩; have HT4 := Lib.hid ht4; have HF4 := Lib.hid (fun b' q => (hF4.foot b' q).elim (HF.out b') (fun q2 => Nat.le_trans (Nat.le_trans hb.size b3.size) q2)); have HRc4 := (ho4.block gc HR3.out.lt (fun q => absurd (HT.out.foot q) (Nat.not_lt_of_le hgc))).trans HR3.out; obtain ⟨r0, r1, r2, r3, r4⟩ := cl_cells (w := w4) HRc4; have b4 := (hb.trans (b3.mono hb.size)).trans (ho4.below HF.out (hb.trans (b3.mono hb.size)).size); clear hF4 ht4 ho4 HRc4)
                  | (go_at_call 17; refine (HD4.out F4 w4 HT4.out).mono ?_; rintro e6 w6 ⟨rfl, rfl⟩)
                  | (go_at_call 19; refine (HI.out _).mono ?_; rintro e7 w7 ⟨rfl, rfl⟩))
                go_roundw
                case rel => clear hadd; exact ⟨k + 1, s2, S', F4, by omega, by go_num, rfl, Lib.hid (HT4.out), HOkN, HLt', HS2, HS2B.out, HF4, b4⟩
                case measure => clear hadd; simp [intOf]; omega
            · have HI := Lib.hid (fun w => is_yes r1 w)
              subst r2
              obtain ⟨d1, hd1⟩ : ∃ d1, 0 = d1 := ⟨_, rfl⟩
              rw [hd1] at q2
              obtain ⟨o2, ho2⟩ : ∃ o2, S'.openN fi = o2 := ⟨_, rfl⟩
              have HO2 := Lib.hid ho2
              obtain ⟨s2, hs2⟩ : ∃ s2, st + d1 = s2 := ⟨_, rfl⟩
              have hsum := HSum.out
              have hs2n : (s2 : Int) + S'.fuse = (n : Int) := by have := q2.2; omega
              have hd500 : d1 ≤ 500 := by omega
              have HADD := Lib.hid (show wrap64 (st : Int) = (s2 : Int) by unfold wrap64; omega)
              have hgt1 : decide (n < s2) = false := by have := q2.1.1; simp; omega
              have hgt2 : decide ((n : Int) < (s2 : Int)) = false := by have := q2.1.1; simp; omega
              have HS2B := Lib.hid (show s2 ≤ 500 * (k + 1) by omega)
              have HOkN := Lib.hid (show S'.ok (501 * (k + 1)) from HOk1.out.mono (by omega))
              have HLt' := Lib.hid q2.1
              have HS2 := Lib.hid hs2n
              have hne : S'.down = true → ((s2 : Int) != (n : Int)) = false := fun e => by have := q2.1.2 e; simp; omega
              subst hd1
              clear hsum hs2n ho2 hs2 hst hd500 hoN
              have hD := r3
              clear r3
              have HD4 := Lib.hid (fun F w h => show Calls Try.prog 17 #[.pointer (some ⟨g, 0, none⟩)] w (fun e w' => e = .returned (.bool true) ∧ w = w') from by have q := Down_any (S := S') g F w h; rw [hD] at q; exact q)
              have hne' := hne hD
              clear hne hD q2 r1
              have tok2 : Hid True := Lib.hid trivial
              have hadd := HADD.out
              go_wp2_with (first
                | (with_reducible refine wpList_indexK0 rfl (.tmp 29) (.tmp 30) rfl b off len0 cap0 k _ _ rfl rfl rfl hlt rfl ?_)
                | (with_reducible refine wpList_loadK rfl (.tmp 31) rfl b (off + 5 * k) 2 fi ni T m c1 I p d rfl HR.out ?_)
                | (with_reducible refine wpList_allocK rfl rfl ?_; intro gc w2 hgc hrc hbc; have HRc := Lib.hid hrc; clear hrc)
                | (with_reducible refine wpList_store_row Try.agg32 rfl (.tmp 8) (.tmp 32) rfl _ (clC 2 fi ni T m c1 I p d) rfl rfl 32 cl0 HRc.out (clC_size _ _ _ _ _ _ _ _ _) cl0_size (clC_one _ _ _ _ _ _ _ _ _) ?_; intro w3 hr3 ho3; obtain ⟨q0, q1, q2, q3, q4⟩ := cl_cells hr3; have b3 : Below wr.heap.size wr w3 := hbc.trans (ho3.below hgc hbc.size); have HR3 := Lib.hid hr3; have HT3 := Lib.hid (HT.out.below b3); clear hr3)
                | (go_at_call 26; have _t := tok2; refine (HOs.out w3 HT3.out).mono ?_; rintro e5 w5 ⟨rfl, rfl⟩; clear _t tok2)
                | (go_at_call 21; refine (HApp.out F w3 HT3.out).mono ?_; rintro e8 w4 ⟨rfl, ⟨F4, hF4, ht4⟩, ho4⟩; have HT4 := Lib.hid ht4; have HF4 := Lib.hid (fun b' q => (hF4.foot b' q).elim (HF.out b') (fun q2 => Nat.le_trans (Nat.le_trans hb.size b3.size) q2)); have HRc4 := (ho4.block gc HR3.out.lt (fun q => absurd (HT.out.foot q) (Nat.not_lt_of_le hgc))).trans HR3.out; obtain ⟨r0, r1, r2, r3, r4⟩ := cl_cells (w := w4) HRc4; have b4 := (hb.trans (b3.mono hb.size)).trans (ho4.below HF.out (hb.trans (b3.mono hb.size)).size); clear hF4 ht4 ho4 HRc4)
                | (go_at_call 17; refine (HD4.out F4 w4 HT4.out).mono ?_; rintro e6 w6 ⟨rfl, rfl⟩)
                | (go_at_call 19; refine (HI.out _).mono ?_; rintro e7 w7 ⟨rfl, rfl⟩))
              go_roundw
              case rel => clear hadd; exact ⟨k + 1, s2, S', F4, by omega, by go_num, rfl, Lib.hid (HT4.out), HOkN, HLt', HS2, HS2B.out, HF4, b4⟩
              case measure => clear hadd; simp [intOf]; omega
            · have HI := Lib.hid (fun w => is_yes r1 w)
              subst r2
              obtain ⟨d1, hd1⟩ : ∃ d1, 1 = d1 := ⟨_, rfl⟩
              rw [hd1] at q2
              obtain ⟨o2, ho2⟩ : ∃ o2, S'.openN fi = o2 := ⟨_, rfl⟩
              have HO2 := Lib.hid ho2
              obtain ⟨s2, hs2⟩ : ∃ s2, st + d1 = s2 := ⟨_, rfl⟩
              have hsum := HSum.out
              have hs2n : (s2 : Int) + S'.fuse = (n : Int) := by have := q2.2; omega
              have hd500 : d1 ≤ 500 := by omega
              have HADD := Lib.hid (show wrap64 ((st : Int) + 1) = (s2 : Int) by unfold wrap64; omega)
              have hgt1 : decide (n < s2) = false := by have := q2.1.1; simp; omega
              have hgt2 : decide ((n : Int) < (s2 : Int)) = false := by have := q2.1.1; simp; omega
              have HS2B := Lib.hid (show s2 ≤ 500 * (k + 1) by omega)
              have HOkN := Lib.hid (show S'.ok (501 * (k + 1)) from HOk1.out.mono (by omega))
              have HLt' := Lib.hid q2.1
              have HS2 := Lib.hid hs2n
              have hne : S'.down = true → ((s2 : Int) != (n : Int)) = false := fun e => by have := q2.1.2 e; simp; omega
              subst hd1
              clear hsum hs2n ho2 hs2 hst hd500 hoN
              have hD := r3
              clear r3
              have HD4 := Lib.hid (fun F w h => show Calls Try.prog 17 #[.pointer (some ⟨g, 0, none⟩)] w (fun e w' => e = .returned (.bool false) ∧ w = w') from by have q := Down_any (S := S') g F w h; rw [hD] at q; exact q)
              clear hne hD q2 r1
              have tok2 : Hid True := Lib.hid trivial
              have hadd := HADD.out
              go_wp2_with (first
                | (with_reducible refine wpList_indexK0 rfl (.tmp 29) (.tmp 30) rfl b off len0 cap0 k _ _ rfl rfl rfl hlt rfl ?_)
                | (with_reducible refine wpList_loadK rfl (.tmp 31) rfl b (off + 5 * k) 2 fi ni T m c1 I p d rfl HR.out ?_)
                | (with_reducible refine wpList_allocK rfl rfl ?_; intro gc w2 hgc hrc hbc; have HRc := Lib.hid hrc; clear hrc)
                | (with_reducible refine wpList_store_row Try.agg32 rfl (.tmp 8) (.tmp 32) rfl _ (clC 2 fi ni T m c1 I p d) rfl rfl 32 cl0 HRc.out (clC_size _ _ _ _ _ _ _ _ _) cl0_size (clC_one _ _ _ _ _ _ _ _ _) ?_; intro w3 hr3 ho3; obtain ⟨q0, q1, q2, q3, q4⟩ := cl_cells hr3; have b3 : Below wr.heap.size wr w3 := hbc.trans (ho3.below hgc hbc.size); have HR3 := Lib.hid hr3; have HT3 := Lib.hid (HT.out.below b3); clear hr3)
                | (go_at_call 26; have _t := tok2; refine (HOs.out w3 HT3.out).mono ?_; rintro e5 w5 ⟨rfl, rfl⟩; clear _t tok2)
                | (go_at_call 21; refine (HApp.out F w3 HT3.out).mono ?_; rintro e8 w4 ⟨rfl, ⟨F4, hF4, ht4⟩, ho4⟩; have HT4 := Lib.hid ht4; have HF4 := Lib.hid (fun b' q => (hF4.foot b' q).elim (HF.out b') (fun q2 => Nat.le_trans (Nat.le_trans hb.size b3.size) q2)); have HRc4 := (ho4.block gc HR3.out.lt (fun q => absurd (HT.out.foot q) (Nat.not_lt_of_le hgc))).trans HR3.out; obtain ⟨r0, r1, r2, r3, r4⟩ := cl_cells (w := w4) HRc4; have b4 := (hb.trans (b3.mono hb.size)).trans (ho4.below HF.out (hb.trans (b3.mono hb.size)).size); clear hF4 ht4 ho4 HRc4)
                | (go_at_call 17; refine (HD4.out F4 w4 HT4.out).mono ?_; rintro e6 w6 ⟨rfl, rfl⟩)
                | (go_at_call 19; refine (HI.out _).mono ?_; rintro e7 w7 ⟨rfl, rfl⟩))
              go_roundw
              case rel => clear hadd; exact ⟨k + 1, s2, S', F4, by omega, by go_num, rfl, Lib.hid (HT4.out), HOkN, HLt', HS2, HS2B.out, HF4, b4⟩
              case measure => clear hadd; simp [intOf]; omega
          · have z0 : (ki == 0) = false := by simp [h0]
            have z1 : (ki == 1) = false := by simp [h1]
            have z2 : (ki == 2) = false := by simp [h2]
            have hz3 : ¬ ki = 0 := h0
            have hz4 : ¬ ki = 1 := h1
            have hz5 : ¬ ki = 2 := h2
            obtain ⟨S', hS'⟩ : ∃ S', S = S' := ⟨_, rfl⟩
            have q2 : Took S S' 0 := by rw [← hS']; exact Took.refl HLt.out
            have HOk1 := Lib.hid (show S'.ok (501 * k) by rw [← hS']; exact HOK.out)
            have HTs := Lib.hid (show Tap wr g F S' by rw [← hS']; exact HT.out)
            have q3' : S'.openN fi = S.openN fi + 0 := by rw [← hS']; rfl
            clear h0 h1 h2 hS'
            have q3 := q3'
            clear q3'
            obtain ⟨d1, hd1⟩ : ∃ d1, 0 = d1 := ⟨_, rfl⟩
            obtain ⟨o2, ho2⟩ : ∃ o2, S'.openN fi = o2 := ⟨_, rfl⟩
            rw [ho2, ho1, hd1] at q3
            rw [hd1] at q2
            have HO2 := Lib.hid ho2
            obtain ⟨s2, hs2⟩ : ∃ s2, st + d1 = s2 := ⟨_, rfl⟩
            have hsum := HSum.out
            have hs2n : (s2 : Int) + S'.fuse = (n : Int) := by have := q2.2; omega
            have hd500 : d1 ≤ 500 := by omega
            have HADD := Lib.hid (show wrap64 (st : Int) = (s2 : Int) by unfold wrap64; omega)
            have hgt1 : decide (n < s2) = false := by have := q2.1.1; simp; omega
            have hgt2 : decide ((n : Int) < (s2 : Int)) = false := by have := q2.1.1; simp; omega
            have HS2B := Lib.hid (show s2 ≤ 500 * (k + 1) by omega)
            have HOkN := Lib.hid (show S'.ok (501 * (k + 1)) from HOk1.out.mono (by omega))
            have HLt' := Lib.hid q2.1
            have HS2 := Lib.hid hs2n
            have hne : S'.down = true → ((s2 : Int) != (n : Int)) = false := fun e => by have := q2.1.2 e; simp; omega
            subst hd1
            clear q2 q3 hsum hs2n ho2 hs2 hst hd500 hoN
            cases hD : S'.down
            · have HD4 := Lib.hid (fun w h => show Calls Try.prog 17 #[.pointer (some ⟨g, 0, none⟩)] w (fun e w' => e = .returned (.bool false) ∧ w = w') from by have q := Down_any (S := S') g F w h; rw [hD] at q; exact q)
              clear hne hD
              have tok2 : Hid True := Lib.hid trivial
              have hadd := HADD.out
              go_wp2_with (first
                | (with_reducible refine wpList_indexK0 rfl (.tmp 29) (.tmp 30) rfl b off len0 cap0 k _ _ rfl rfl rfl hlt rfl ?_)
                | (with_reducible refine wpList_loadK rfl (.tmp 31) rfl b (off + 5 * k) ki fi ni T m c1 I p d rfl HR.out ?_)
                | (with_reducible refine wpList_allocK rfl rfl ?_; intro gc w2 hgc hrc hbc; have HRc := Lib.hid hrc; clear hrc)
                | (with_reducible refine wpList_store_row Try.agg32 rfl (.tmp 8) (.tmp 32) rfl _ (clC ki fi ni T m c1 I p d) rfl rfl 32 cl0 HRc.out (clC_size _ _ _ _ _ _ _ _ _) cl0_size (clC_one _ _ _ _ _ _ _ _ _) ?_; intro w3 hr3 ho3; obtain ⟨q0, q1, q2, q3, q4⟩ := cl_cells hr3; have b3 : Below wr.heap.size wr w3 := hbc.trans (ho3.below hgc hbc.size); have HR3 := Lib.hid hr3; have HT3 := Lib.hid (HT.out.below b3); clear hr3)
                | (go_at_call 26; have _t := tok2; refine (HOs.out w3 HT3.out).mono ?_; rintro e5 w5 ⟨rfl, rfl⟩; clear _t tok2)
                | (go_at_call 17; refine (HD4.out w3 (HTs.out.below b3)).mono ?_; rintro e6 w6 ⟨rfl, rfl⟩)
                | (go_at_call 19; refine (HI.out _).mono ?_; rintro e7 w7 ⟨rfl, rfl⟩))
              go_roundw
              case rel => clear hadd; exact ⟨k + 1, s2, S', F, by omega, by go_num, rfl, Lib.hid (HTs.out.below b3), HOkN, HLt', HS2, HS2B.out, HF, hb.trans (b3.mono hb.size)⟩
              case measure => clear hadd; simp [intOf]; omega
            · by_cases hI : isF fi
              · have HI := Lib.hid (fun w => is_yes hI w)
                have HD4 := Lib.hid (fun w h => show Calls Try.prog 17 #[.pointer (some ⟨g, 0, none⟩)] w (fun e w' => e = .returned (.bool true) ∧ w = w') from by have q := Down_any (S := S') g F w h; rw [hD] at q; exact q)
                have hne' := hne hD
                clear hne hI hD
                have tok2 : Hid True := Lib.hid trivial
                by_cases hge : 0 ≤ ki
                · have hle : ¬ ki ≤ 2 := by omega
                  have hadd := HADD.out
                  go_wp2_with (first
                    | (with_reducible refine wpList_indexK0 rfl (.tmp 29) (.tmp 30) rfl b off len0 cap0 k _ _ rfl rfl rfl hlt rfl ?_)
                    | (with_reducible refine wpList_loadK rfl (.tmp 31) rfl b (off + 5 * k) ki fi ni T m c1 I p d rfl HR.out ?_)
                    | (with_reducible refine wpList_allocK rfl rfl ?_; intro gc w2 hgc hrc hbc; have HRc := Lib.hid hrc; clear hrc)
                    | (with_reducible refine wpList_store_row Try.agg32 rfl (.tmp 8) (.tmp 32) rfl _ (clC ki fi ni T m c1 I p d) rfl rfl 32 cl0 HRc.out (clC_size _ _ _ _ _ _ _ _ _) cl0_size (clC_one _ _ _ _ _ _ _ _ _) ?_; intro w3 hr3 ho3; obtain ⟨q0, q1, q2, q3, q4⟩ := cl_cells hr3; have b3 : Below wr.heap.size wr w3 := hbc.trans (ho3.below hgc hbc.size); have HR3 := Lib.hid hr3; have HT3 := Lib.hid (HT.out.below b3); clear hr3)
                    | (go_at_call 26; have _t := tok2; refine (HOs.out w3 HT3.out).mono ?_; rintro e5 w5 ⟨rfl, rfl⟩; clear _t tok2)
                    | (go_at_call 17; refine (HD4.out w3 (HTs.out.below b3)).mono ?_; rintro e6 w6 ⟨rfl, rfl⟩)
                    | (go_at_call 19; refine (HI.out _).mono ?_; rintro e7 w7 ⟨rfl, rfl⟩))
                  go_roundw
                  case rel => clear hadd; exact ⟨k + 1, s2, S', F, by omega, by go_num, rfl, Lib.hid (HTs.out.below b3), HOkN, HLt', HS2, HS2B.out, HF, hb.trans (b3.mono hb.size)⟩
                  case measure => clear hadd; simp [intOf]; omega
                · have hadd := HADD.out
                  go_wp2_with (first
                    | (with_reducible refine wpList_indexK0 rfl (.tmp 29) (.tmp 30) rfl b off len0 cap0 k _ _ rfl rfl rfl hlt rfl ?_)
                    | (with_reducible refine wpList_loadK rfl (.tmp 31) rfl b (off + 5 * k) ki fi ni T m c1 I p d rfl HR.out ?_)
                    | (with_reducible refine wpList_allocK rfl rfl ?_; intro gc w2 hgc hrc hbc; have HRc := Lib.hid hrc; clear hrc)
                    | (with_reducible refine wpList_store_row Try.agg32 rfl (.tmp 8) (.tmp 32) rfl _ (clC ki fi ni T m c1 I p d) rfl rfl 32 cl0 HRc.out (clC_size _ _ _ _ _ _ _ _ _) cl0_size (clC_one _ _ _ _ _ _ _ _ _) ?_; intro w3 hr3 ho3; obtain ⟨q0, q1, q2, q3, q4⟩ := cl_cells hr3; have b3 : Below wr.heap.size wr w3 := hbc.trans (ho3.below hgc hbc.size); have HR3 := Lib.hid hr3; have HT3 := Lib.hid (HT.out.below b3); clear hr3)
                    | (go_at_call 26; have _t := tok2; refine (HOs.out w3 HT3.out).mono ?_; rintro e5 w5 ⟨rfl, rfl⟩; clear _t tok2)
                    | (go_at_call 17; refine (HD4.out w3 (HTs.out.below b3)).mono ?_; rintro e6 w6 ⟨rfl, rfl⟩)
                    | (go_at_call 19; refine (HI.out _).mono ?_; rintro e7 w7 ⟨rfl, rfl⟩))
                  go_roundw
                  case rel => clear hadd; exact ⟨k + 1, s2, S', F, by omega, by go_num, rfl, Lib.hid (HTs.out.below b3), HOkN, HLt', HS2, HS2B.out, HF, hb.trans (b3.mono hb.size)⟩
                  case measure => clear hadd; simp [intOf]; omega
              · have HI := Lib.hid (fun w => is_no hI w)
                have HD4 := Lib.hid (fun w h => show Calls Try.prog 17 #[.pointer (some ⟨g, 0, none⟩)] w (fun e w' => e = .returned (.bool true) ∧ w = w') from by have q := Down_any (S := S') g F w h; rw [hD] at q; exact q)
                have hne' := hne hD
                clear hne hI hD
                have tok2 : Hid True := Lib.hid trivial
                have hadd := HADD.out
                go_wp2_with (first
                  | (with_reducible refine wpList_indexK0 rfl (.tmp 29) (.tmp 30) rfl b off len0 cap0 k _ _ rfl rfl rfl hlt rfl ?_)
                  | (with_reducible refine wpList_loadK rfl (.tmp 31) rfl b (off + 5 * k) ki fi ni T m c1 I p d rfl HR.out ?_)
                  | (with_reducible refine wpList_allocK rfl rfl ?_; intro gc w2 hgc hrc hbc; have HRc := Lib.hid hrc; clear hrc)
                  | (with_reducible refine wpList_store_row Try.agg32 rfl (.tmp 8) (.tmp 32) rfl _ (clC ki fi ni T m c1 I p d) rfl rfl 32 cl0 HRc.out (clC_size _ _ _ _ _ _ _ _ _) cl0_size (clC_one _ _ _ _ _ _ _ _ _) ?_; intro w3 hr3 ho3; obtain ⟨q0, q1, q2, q3, q4⟩ := cl_cells hr3; have b3 : Below wr.heap.size wr w3 := hbc.trans (ho3.below hgc hbc.size); have HR3 := Lib.hid hr3; have HT3 := Lib.hid (HT.out.below b3); clear hr3)
                  | (go_at_call 26; have _t := tok2; refine (HOs.out w3 HT3.out).mono ?_; rintro e5 w5 ⟨rfl, rfl⟩; clear _t tok2)
                  | (go_at_call 17; refine (HD4.out w3 (HTs.out.below b3)).mono ?_; rintro e6 w6 ⟨rfl, rfl⟩)
                  | (go_at_call 19; refine (HI.out _).mono ?_; rintro e7 w7 ⟨rfl, rfl⟩))
                go_roundw
                case rel => clear hadd; exact ⟨k + 1, s2, S', F, by omega, by go_num, rfl, Lib.hid (HTs.out.below b3), HOkN, HLt', HS2, HS2B.out, HF, hb.trans (b3.mono hb.size)⟩
                case measure => clear hadd; simp [intOf]; omega
    · obtain rfl : k = len0 := by omega
      go_wp2_with (go_at_call 11; refine (awake_any _).mono ?_; rintro e4 w4 ⟨rfl, hb4⟩)
      go_ret
      exact ⟨rfl, hb.trans (hb4.mono hb.size)⟩

set_option maxRecDepth 100000 in
theorem lifted (os : Os) (started : os.Started) (H : Type) (enc : TypeId × Value → H) :
    ReturnsInHanded {} Try.checked os 7 .any (Rows.tapePowerSpec.pre6 enc Try.prog Try.f7 Rows.tapePowerRow.domain false) (Rows.tapePowerSpec.post enc Try.prog Try.f7 false true false false) := by
  refine returnsInHanded_of_change_sized (C := Try.checked) own started (by kernel_rfl) Try.func7
    (ChangeSpec.witness6 (enc := enc) (C := Try.checked) false ⟨#[], #[.slice none 0 0, .int .i64 0], []⟩ 8 (by kernel_rfl) (by kernel_rfl) (by kernel_rfl) (by kernel_rfl)) ?_
  intro W base args ds gs before hval0 hW hcnd hsz0 _
  have hval : ∀ (j : Nat) t v, Try.f7.params[j]? = some t → args[j]? = some v → Value.okWide Try.prog W .any base t v := hval0
  have hW' := hW
  obtain ⟨p, q, hA0, hV, rfl, hfz, hnd⟩ := hW
  have hA : DataW.TrodAll enc Try.prog W 0 (fun _ => true) true Try.f7.params.toList args.toList ds p := hA0
  have hsz : (DataW.weightsEach Try.prog (Try.f7.params.toList ++ Rows.tapePowerSpec.plain.varTypes Try.prog) (ds ++ gs)).all (· ≤ reachBytes) = true := hsz0
  rw [Try.params7] at hA hval hsz
  obtain ⟨v0, vs0, d0, ds0, p0, q0, hargs, rfl, rfl, h0, r0⟩ := trodAll_cons hA
  obtain ⟨v1, vs1, d1, ds1, p1, q1, rfl, rfl, rfl, h1, r1⟩ := trodAll_cons r0
  obtain ⟨rfl, rfl, rfl⟩ := trodAll_nil r1
  obtain rfl : args = #[v0, v1] := by cases args; simp_all
  obtain ⟨rfl, rfl⟩ := trodVars_none hV
  have k0 := h0
  have lt0 : ∀ x ∈ p0, x.block < W.heap.size := by obtain ⟨m, hm⟩ := k0; exact DataW.trod_lt m _ _ _ hm
  obtain ⟨a0, len0, cap0, l0, rfl, w0⟩ := open_cls (hval 0 22 v0 rfl rfl) h0
  obtain ⟨a1, rfl, rfl, rfl, w1⟩ := open_int Try.underlying3 (hval 1 3 v1 rfl rfl) h1
  clear hA0 hval0
  refine (walk W a0 len0 cap0 l0 w0 a1 w1).mono fun e W' ⟨he, bel⟩ => ?_
  subst he
  exact ⟨_, rfl, _, _, _, [], _, [], hW', trodAll_mk1 (shut_bool Try.underlying4 _), (trodAll_cons_mk (Below.trod laidOut (by kernel_rfl) (of_decide_eq_true (by kernel_rfl)) k0 bel lt0) (trodAll_cons_mk (shut_int Try.underlying3 w1) trodAll_mk0)), rfl, bel.frame _, fun h => by cases h⟩
theorem over : Rows.tapePowerRow.holds Try.pinned (OpenSpec.ofChange Rows.tapePowerSpec) :=
  OpenClaim.holds_of_wide 7 Try.f7 rfl rfl rfl rfl rfl rfl rfl ⟨rfl, rfl, rfl, rfl, rfl⟩ rfl rfl rfl rfl rfl (by kernel_rfl) Try.func7 (by kernel_rfl)
    (of_decide_eq_true (by kernel_rfl)) (by unfold Func.isWrapper; first | (rw [if_pos (by decide +kernel)]; kernel_rfl) | (rw [if_neg (by decide +kernel)]; exact ⟨rfl, rfl⟩))
    (fun os started H enc _ => lifted os started H enc)
theorem tapePower_holds : Rows.TapePowerSaid := over
#print axioms tapePower_holds
end Go.Proofs.Ytpnllbadalcnaaa.tapePower
