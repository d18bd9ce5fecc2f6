/-
  TapeApart, whole (Rows.TapeApartSaid): behind any calls, what is appended to a crash, or cut from it, changes nothing that the tape tells, and what is appended to the tape nothing that its crash tells; and the document's example. No conditions.
  The frame is the shell of the proof by program (proof-skeleton); the walk is mine.
-/
import Derived.Test.YtpnllbadalcnaaaRows
import Derived.WalkKit
import Derived.ProofKit
import Derived.OpenShut
import Derived.ShutString
import Derived.ChangeOld
import Derived.Below
import Derived.SizedLaws
import Derived.Test.YtpnllbadalcnaaaLawA
namespace Go.Proofs.Ytpnllbadalcnaaa.tapeApart
open Go.ChangeShapes Go.WideShapes Go.ChangeAt Go.RowKit
set_option linter.unusedVariables false
theorem own : ownKnob Try.prog.godebug = none := by kernel_rfl
theorem laidOut : laidOutB Try.prog = true := by kernel_rfl
theorem yields_indexK {ops : Array Oper} {S : World → Prop} {o : Oper} {a : Act} (hw : Region.wanted o (yielded ops a.tmps) = true) (x y : Operand) (ho : o.op = .indexAddr 22 x y) (b off n c k : Nat)
    (hx : a.eval x = .slice (some ⟨b, off, none⟩) n c) (hy : a.eval y = .int .i64 (k : Int)) (hk : k < n) : YieldsIf Try.prog ops S o (.pointer (some ⟨b, off + 5 * k, none⟩)) a :=
  .inl ⟨hw, fun w _ => by
    unfold execOp
    simp only [ho, hx, hy, Sem.run_bind, run_indexK b off n c k _ rfl hk, Result.andThen_ok]
    rfl⟩
/-- bytes that lie off the blocks G -/
def Kp (w : World) (A : Option Addr) (n : Nat) (L : List UInt8) (G : Nat → Prop) : Prop := Bs w A n L ∧ ∀ b off, A = some ⟨b, off, none⟩ → n ≠ 0 → ¬ G b
theorem Kp.off {w w' : World} {A : Option Addr} {n : Nat} {L : List UInt8} {G : Nat → Prop} (h : Kp w A n L G) (ho : Off G w w') : Kp w' A n L G := by
  refine ⟨?_, h.2⟩
  rcases Nat.eq_zero_or_pos n with h0 | h0
  · have hE := h.1.empty h0
    exact ⟨h.1.1, fun k x hx => by rw [hE] at hx; simp at hx⟩
  · exact h.1.off (fun b off e q => h.2 b off e (by omega) q) ho
theorem Kp.below {w w' : World} {A : Option Addr} {n : Nat} {L : List UInt8} {G : Nat → Prop} (h : Kp w A n L G) (hb : Below w.heap.size w w') : Kp w' A n L G := ⟨h.1.below hb, h.2⟩
theorem Kp.turn {w : World} {A : Option Addr} {n : Nat} {L : List UInt8} {G G' : Nat → Prop} (h : Kp w A n L G) (hG : ∀ b, G' b → G b ∨ w.heap.size ≤ b) : Kp w A n L G' := by
  refine ⟨h.1, fun b off e hn q => ?_⟩
  rcases hG b q with q | q
  · exact h.2 b off e hn q
  · obtain ⟨b', off', x, e', hlt, _⟩ := h.1.get (show 0 < n by omega)
    rw [e'] at e
    injection e with e
    injection e with e
    omega
theorem Kp.turn' {w' : World} {A : Option Addr} {n : Nat} {L : List UInt8} {G G' : Nat → Prop} (h : Kp w' A n L G) (hw : ∃ w, Bs w A n L ∧ ∀ b, G' b → G b ∨ w.heap.size ≤ b) : Kp w' A n L G' := by
  obtain ⟨w, hB, hG⟩ := hw
  exact ⟨h.1, (Kp.turn ⟨hB, h.2⟩ hG).2⟩
theorem Kp.of {w w' : World} {A : Option Addr} {n : Nat} {L : List UInt8} {G : Nat → Prop} (h : Bs w' A n L) (hf : ∀ b off, A = some ⟨b, off, none⟩ → w.heap.size ≤ b) (hG : ∀ b, G b → b < w.heap.size) : Kp w' A n L G := ⟨h, fun b off e _ q => by have := hf b off e; have := hG b q; omega⟩
/-- a tape beside another one -/
theorem Tap.beside {w w' : World} {g gx : Nat} {F FX : Nat → Nat → Prop} {S T : Tp} (h : Tap w g F S) (hd : ∀ b, Foot g F b → ¬ Foot gx FX b) (k : Grow w gx FX T w') : Tap w' g F S := h.outside k.2 hd
set_option maxRecDepth 100000 in
set_option maxHeartbeats 16000000 in
theorem walk (w : World) (a0 : Option Addr) (len0 cap0 : Nat) (l0 : List Cl) (w0 : Cls w a0 len0 l0) (a1 : Option Addr) (len1 cap1 : Nat) (l1 : List Cl) (w1 : Cls w a1 len1 l1) (a2 : Option Addr) (len2 cap2 : Nat) (l2 : List Int) (w2 : Is w a2 len2 l2) :
    Calls Try.prog 6 #[.slice a0 len0 cap0, .slice a1 len1 cap1, .slice a2 len2 cap2] w fun e w' => e = .returned (.bool true) ∧ Below w.heap.size w w' := by
  have tok1 : Hid True := Lib.hid trivial
  have HC := Lib.hid w0
  have HM := Lib.hid w1
  have HK := Lib.hid w2
  by_cases hl : longC l0 = true
  · have HLo := Lib.hid (fun w h => long_is a0 len0 cap0 l0 true w h hl)
    have HLm := Lib.hid True.intro
    clear w0 hl w1 w2
    go_enter Try.func6, Try.ntmps6
    go_wp2_with (first
      | (go_at_call 10; have _t := tok1; refine (HLo.out _ HC.out).mono ?_; rintro e1 w1 ⟨rfl, rfl⟩; clear _t tok1)
      | (go_at_call 10; refine (HLm.out _ HM.out).mono ?_; rintro e1 w1 ⟨rfl, rfl⟩)
      | (go_at_call 11; refine (awake_any _).mono ?_; rintro e2 w2 ⟨rfl, hb2⟩))
    go_ret
    exact ⟨rfl, hb2⟩
  have hl' : longC l0 = false := by simpa using hl
  have HLo := Lib.hid (fun w h => long_is a0 len0 cap0 l0 false w h hl')
  by_cases hm : longC l1 = true
  · have HLm := Lib.hid (fun w h => long_is a1 len1 cap1 l1 true w h hm)
    clear w0 hl w1 w2 hl' hm
    go_enter Try.func6, Try.ntmps6
    go_wp2_with (first
      | (go_at_call 10; have _t := tok1; refine (HLo.out _ HC.out).mono ?_; rintro e1 w1 ⟨rfl, rfl⟩; clear _t tok1)
      | (go_at_call 10; refine (HLm.out _ HM.out).mono ?_; rintro e1 w1 ⟨rfl, rfl⟩)
      | (go_at_call 11; refine (awake_any _).mono ?_; rintro e2 w2 ⟨rfl, hb2⟩))
    go_ret
    exact ⟨rfl, hb2⟩
  have hm' : longC l1 = false := by simpa using hm
  have HLm := Lib.hid (fun w h => long_is a1 len1 cap1 l1 false w h hm')
  by_cases h10 : 10 < len2
  · have i10 : (10 : Int) < (len2 : Int) := by omega
    clear w0 hl w1 w2 hl' hm hm' h10
    go_enter Try.func6, Try.ntmps6
    go_wp2_with (first
      | (go_at_call 10; have _t := tok1; refine (HLo.out _ HC.out).mono ?_; rintro e1 w1 ⟨rfl, rfl⟩; clear _t tok1)
      | (go_at_call 10; refine (HLm.out _ HM.out).mono ?_; rintro e1 w1 ⟨rfl, rfl⟩)
      | (go_at_call 11; refine (awake_any _).mono ?_; rintro e2 w2 ⟨rfl, hb2⟩))
    go_ret
    exact ⟨rfl, hb2⟩
  have i10 : ¬ (10 : Int) < (len2 : Int) := by omega
  obtain ⟨hl60, hlb⟩ := longC_no hl'
  obtain ⟨hm60, hmb⟩ := longC_no hm'
  have hb5 : ∀ x ∈ l0, x.b.length ≤ 500 := fun x hx => (hlb x hx).1
  have hlen := w0.1
  have hlen1 := w1.1
  have HM5 := Lib.hid (fun x (hx : x ∈ l1) => (hmb x hx).1)
  have HP := Lib.hid (fun w h => played_any a0 len0 cap0 l0 w h hb5 (by omega))
  obtain ⟨S, hS⟩ : ∃ S, playT Tp.new l0 = S := ⟨_, rfl⟩
  have okS : S.ok 30060 := by rw [← hS]; exact (playT_all hb5).mono (by omega)
  have frS : S.free := by rw [← hS]; exact playT_free l0 _ free_new
  rw [hS] at HP
  obtain ⟨X, hX⟩ : ∃ X, S.crash l2 = X := ⟨_, rfl⟩
  have okX : X.ok 0 := by rw [← hX]; exact crash_ok _ 0 okS
  have frX : X.free := by rw [← hX]; exact free_crash _ _
  have HCr := Lib.hid (fun g F w A c h hI => show Calls Try.prog 14 #[.pointer (some ⟨g, 0, none⟩), .slice A len2 c] w (Left w X) from by
    have q := Crash_any (S := S) g 30060 len2 c A l2 F w h okS (by omega) hI
    rw [hX] at q; exact q)
  have HSx := Lib.hid (And.intro okS frS)
  have HXx := Lib.hid (And.intro okX frX)
  have hm1 : len1 ≤ 60 := by omega
  have hk10 : len2 ≤ 10 := by omega
  clear w0 hl hl' hm hm' hl60 hlb hm60 hmb hb5 hlen hlen1 hS okS frS hX okX frX w1 w2 h10
  go_enter Try.func6, Try.ntmps6
  go_wp2_with (first
    | (go_at_call 10; have _t := tok1; refine (HLo.out _ HC.out).mono ?_; rintro e0 w0 ⟨rfl, rfl⟩; clear _t tok1)
    | (go_at_call 10; refine (HLm.out _ HM.out).mono ?_; rintro e0 w0 ⟨rfl, rfl⟩)
    | (go_at_call 20; refine (HP.out _ HC.out).mono ?_; rintro e1 w1 ⟨g, F, rfl, ht1, hf1, hb1⟩; have HT1 := Lib.hid ht1; have HF1 := Lib.hid hf1; clear ht1 hf1)
    | (with_reducible refine wpList_copyI rfl (.tmp 36) (.tmp 37) rfl rfl a2 len2 cap2 l2 rfl (HK.out.below hb1) (by omega) ?_; intro A2 c2 w2 hI2 hb2; have HI2 := Lib.hid hI2; have HT2 := Lib.hid (HT1.out.below hb2); clear hI2)
    | (go_at_call 14; refine (HCr.out g F w2 A2 c2 HT2.out HI2.out).mono ?_; rintro e3 w3 ⟨gx, FX, rfl, ht3, hf3, hb3⟩; have HT3 := Lib.hid ht3; have HF3 := Lib.hid hf3; have HT3g := Lib.hid (HT2.out.below hb3); have k3 := hb2.trans (hb3.mono hb2.size); clear ht3 hf3))
  have HDj := Lib.hid (fun b (q : Foot g F b) (q2 : Foot gx FX b) => show False from by have := HT1.out.foot q; have := HF3.out b q2; have := hb2.size; omega)
  have HFx := Lib.hid (fun b (q : Foot gx FX b) => show w.heap.size ≤ b from by have := HF3.out b q; have := hb1.size; have := hb2.size; omega)
  have b3 := hb1.trans (k3.mono hb1.size)
  go_loopw [7, 8, 9] (fun t x f wr => ∃ (i g gx : Nat) (F FX : Nat → Nat → Prop), i ≤ 4 ∧ f = .int .i64 (i : Int) ∧ t = .pointer (some ⟨g, 0, none⟩) ∧ x = .pointer (some ⟨gx, 0, none⟩) ∧ Hid (Tap wr g F S) ∧ Hid (Tap wr gx FX X) ∧ Hid (∀ b, Foot g F b → w.heap.size ≤ b) ∧ Hid (∀ b, Foot gx FX b → w.heap.size ≤ b) ∧ Hid (∀ b, Foot g F b → Foot gx FX b → False) ∧ Below w.heap.size w wr) (fun _ _ f _ => 4 - (intOf f).toNat)
  case atStart => exact ⟨0, g, gx, F, FX, by omega, rfl, rfl, rfl, HT3g, HT3, HF1, HFx, HDj, b3⟩
  case round =>
    clear HT1 HF1 HT2 HI2 HT3 HF3 HT3g HDj HFx b3 k3 hb1 hb2 hb3
    obtain ⟨i, g, gx, F, FX, hi4, rfl, rfl, rfl, HTg, HTx, HFg, HFx, HDj, bk⟩ := hrel
    by_cases hi : i < 4
    · have hiI : (i : Int) < 4 := by omega
      obtain ⟨NS, hNS⟩ : ∃ N, (S.f i).now = N := ⟨_, rfl⟩
      obtain ⟨ns, hns⟩ : ∃ n, NS.length = n := ⟨_, rfl⟩
      obtain ⟨NX, hNX⟩ : ∃ N, (X.f i).now = N := ⟨_, rfl⟩
      obtain ⟨nx, hnx⟩ : ∃ n, NX.length = n := ⟨_, rfl⟩
      obtain ⟨M, hM⟩ : ∃ M, (S.f i).opn.length = M := ⟨_, rfl⟩
      have hnsb : ns ≤ 1048576 := by have := HSx.out.1.now i; rw [hNS, hns] at this; exact this
      have hnxb : nx ≤ 1048576 := by have := HXx.out.1.now i; rw [hNX, hnx] at this; exact this
      have HRs := Lib.hid (fun g F w h => read_N (S := S) g 30060 i ns F NS w h HSx.out.1 (by omega) HSx.out.2 hi hNS hns)
      have HRx := Lib.hid (fun g F w h => read_N (S := X) g 0 i nx F NX w h HXx.out.1 (by omega) HXx.out.2 hi hNX hnx)
      have HOs := Lib.hid (fun g F w h => show Calls Try.prog 26 #[.pointer (some ⟨g, 0, none⟩), .int .i64 (i : Int)] w (fun e w' => e = .returned (.int .i64 (M : Int)) ∧ w = w') from by
        have q := Open_any (S := S) g i F w h
        rw [open_in hi, hM] at q; exact q)
      have HM0 := Lib.hid hM
      clear hNS hns hNX hnx hM
      go_wp2_with (first
        | (go_at_call 22; have hz := HBa; clear hz; refine (HRx.out gx FX w4 HTx4.out).mono ?_; rintro e5 w5 ⟨A5, c5, rfl, hB5, hc5, hf5, hb5⟩; have HBb := Lib.hid (show Kp w5 A5 nx NX (Foot gx FX) from Kp.of hB5 hf5 (fun b q => HTx4.out.foot q)); have HBbg := Lib.hid (show Kp w5 A5 nx NX (Foot g F) from Kp.of hB5 hf5 (fun b q => HTg4.out.foot q)); have HBa5 := Lib.hid (HBa.out.below hb5); have HBag5 := Lib.hid (HBag.out.below hb5); have HTg5 := Lib.hid (HTg4.out.below hb5); have HTx5 := Lib.hid (HTx4.out.below hb5); have b5 := b4.trans (hb5.mono b4.size); clear hB5 hf5)
        | (go_at_call 22; refine (HRs.out g F wr HTg.out).mono ?_; rintro e4 w4 ⟨A4, c4, rfl, hB4, hc4, hf4, hb4⟩; have HBa := Lib.hid (show Kp w4 A4 ns NS (Foot gx FX) from Kp.of hB4 hf4 (fun b q => HTx.out.foot q)); have HBag := Lib.hid (show Kp w4 A4 ns NS (Foot g F) from Kp.of hB4 hf4 (fun b q => HTg.out.foot q)); have HTg4 := Lib.hid (HTg.out.below hb4); have HTx4 := Lib.hid (HTx.out.below hb4); have b4 := bk.trans (hb4.mono bk.size); clear hB4 hf4)
        | (go_at_call 26; refine (HOs.out g F w5 HTg5.out).mono ?_; rintro e6 w6 ⟨rfl, rfl⟩))
      go_loopw [15] (fun x wr => ∃ (k : Nat) (T : Tp) (FY : Nat → Nat → Prop), k ≤ len1 ∧ x = .int .i64 (k : Int) ∧ Hid (Tap wr gx FY T) ∧ Hid (T.ok (501 * k)) ∧ Hid (Tap wr g F S) ∧ Hid (∀ b, Foot gx FY b → w.heap.size ≤ b) ∧ Hid (∀ b, Foot g F b → Foot gx FY b → False) ∧ Hid (Kp wr A4 ns NS (Foot gx FY)) ∧ Hid (Kp wr A5 nx NX (Foot gx FY)) ∧ Below w.heap.size w wr) (fun x _ => len1 - (intOf x).toNat)
      case atStart => exact ⟨0, X, FX, Nat.zero_le _, rfl, HTx5, Lib.hid HXx.out.1, HTg5, HFx, HDj, HBa5, HBb, b5⟩
      case round =>
        obtain ⟨k, T, FY, hk, rfl, HTk, HOk, HTgk, HFk, HDk, HAk, HBk, bq⟩ := hrel
        by_cases hlt : k < len1
        · obtain ⟨x, b, off, T1, m, c1, I, p, d, hx, rfl, hbl, hr, hB, hmc, _, _⟩ := (HM.out.below bq).get hlt
          have hbw : b < w.heap.size := by
            obtain ⟨_, b', off', _, _, _, _, _, _, _, e', hb', _⟩ := HM.out.get hlt
            injection e' with e'
            injection e' with e'
            omega
          have hm5 := HM5.out x (List.mem_of_getElem? hx)
          obtain ⟨ki, fi, ni, l, kept⟩ := x
          simp only at hr hB hm5
          have HB := Lib.hid hB
          have hm : m ≤ 500 := by have := hB.1; omega
          have c1' : wr.cell? ⟨b, off + 5 * k + 1, none⟩ = some (.int .i64 fi) := hr 1 _ rfl
          have c2' : wr.cell? ⟨b, off + 5 * k + 2, none⟩ = some (.int .i64 ni) := hr 2 _ rfl
          have c3' : wr.cell? ⟨b, off + 5 * k + 3, none⟩ = some (.slice T1 m c1) := hr 3 _ rfl
          have HOk1 := Lib.hid (append_ok fi l HOk.out)
          have hml : l.length = m := hB.1
          have hlt' : k < len1 := hlt
          have hK : 501 * k ≤ 30060 := by omega
          clear hr hB hx hm5
          go_wp2_with fail
          refine cutR (fun a a' w' => ∃ (E6 : Int) (A6 : Option Addr) (c6 : Nat) (wo : World), a' = (((((((((((((a.put (some 65) (.pointer (some ⟨gx, 0, none⟩))).put (some 66) (.slice (some ⟨b, off, none⟩) len1 cap1)).put (some 67) (.int .i64 (k : Int))).put (some 68) (.pointer (some ⟨b, off + 5 * k, none⟩))).put (some 69) (.pointer (some ⟨b, off + 5 * k + 1, none⟩))).put (some 70) (.int .i64 fi)).put (some 71) (.slice (some ⟨b, off, none⟩) len1 cap1)).put (some 72) (.int .i64 (k : Int))).put (some 73) (.pointer (some ⟨b, off + 5 * k, none⟩))).put (some 74) (.pointer (some ⟨b, off + 5 * k + 3, none⟩))).put (some 75) (.slice T1 m c1)).put (some 76) (.slice A6 m c6)).put (some 77) (.int .i64 E6)) ∧ Below wr.heap.size wr wo ∧ Grow wo gx FY (T.append fi l).1 w') ?_ ?_
          · have B0 : Below wr.heap.size wr wr.drew := (Below.refl wr.heap.size wr).drew
            refine wp_region_noPanic ?_
            refine wp_region_held_drew (S := fun w' => w'.cell? ⟨b, off + 5 * k + 1, none⟩ = some (.int .i64 fi) ∧ w'.cell? ⟨b, off + 5 * k + 3, none⟩ = some (.slice T1 m c1)) (by kernel_rfl) ⟨c1', c3'⟩ (fun hHeld => ?_)
            refine takeD (i := 0) (some 65) (.pointer (some ⟨gx, 0, none⟩)) rfl rfl (by kernel_rfl) (by kernel_rfl) (by kernel_rfl) (fun _ _ _ h => h) (Or.inl ⟨by rfl, fun _ _ => rfl⟩) hHeld ?_
            simp only [Act.put, List.setIfInBounds_toArray, List.set_cons_zero, List.set_cons_succ]
            refine takeD (i := 1) (some 66) (.slice (some ⟨b, off, none⟩) len1 cap1) rfl rfl (by kernel_rfl) (by kernel_rfl) (by kernel_rfl) (fun _ _ _ h => h) (Or.inl ⟨by rfl, fun _ _ => rfl⟩) hHeld ?_
            simp only [Act.put, List.setIfInBounds_toArray, List.set_cons_zero, List.set_cons_succ]
            refine takeD (i := 2) (some 67) (.int .i64 (k : Int)) rfl rfl (by kernel_rfl) (by kernel_rfl) (by kernel_rfl) (fun _ _ _ h => h) (Or.inl ⟨by rfl, fun _ _ => rfl⟩) hHeld ?_
            simp only [Act.put, List.setIfInBounds_toArray, List.set_cons_zero, List.set_cons_succ]
            refine takeD (i := 3) (some 68) (.pointer (some ⟨b, off + 5 * k, none⟩)) rfl rfl (by kernel_rfl) (by kernel_rfl) (by kernel_rfl) (fun _ _ _ h => h) (yields_indexK (by rfl) (.tmp 66) (.tmp 67) rfl b off len1 cap1 k rfl rfl hlt') hHeld ?_
            simp only [Act.put, List.setIfInBounds_toArray, List.set_cons_zero, List.set_cons_succ]
            refine takeD (i := 4) (some 69) (.pointer (some ⟨b, off + 5 * k + 1, none⟩)) rfl rfl (by kernel_rfl) (by kernel_rfl) (by kernel_rfl) (fun _ _ _ h => h) (yields_fld32 (by rfl) (.tmp 68) 1 rfl (by decide) b (off + 5 * k) _ rfl rfl) hHeld ?_
            simp only [Act.put, List.setIfInBounds_toArray, List.set_cons_zero, List.set_cons_succ]
            refine takeD (i := 5) (some 70) (.int .i64 fi) rfl rfl (by kernel_rfl) (by kernel_rfl) (by kernel_rfl) (fun _ _ _ h => h) (yields_cell (by rfl) 3 (.tmp 69) rfl (by decide) b (off + 5 * k + 1) _ rfl (fun _ h => h.1)) hHeld ?_
            simp only [Act.put, List.setIfInBounds_toArray, List.set_cons_zero, List.set_cons_succ]
            refine takeD (i := 6) (some 71) (.slice (some ⟨b, off, none⟩) len1 cap1) rfl rfl (by kernel_rfl) (by kernel_rfl) (by kernel_rfl) (fun _ _ _ h => h) (Or.inl ⟨by rfl, fun _ _ => rfl⟩) hHeld ?_
            simp only [Act.put, List.setIfInBounds_toArray, List.set_cons_zero, List.set_cons_succ]
            refine takeD (i := 7) (some 72) (.int .i64 (k : Int)) rfl rfl (by kernel_rfl) (by kernel_rfl) (by kernel_rfl) (fun _ _ _ h => h) (Or.inl ⟨by rfl, fun _ _ => rfl⟩) hHeld ?_
            simp only [Act.put, List.setIfInBounds_toArray, List.set_cons_zero, List.set_cons_succ]
            refine takeD (i := 8) (some 73) (.pointer (some ⟨b, off + 5 * k, none⟩)) rfl rfl (by kernel_rfl) (by kernel_rfl) (by kernel_rfl) (fun _ _ _ h => h) (yields_indexK (by rfl) (.tmp 71) (.tmp 72) rfl b off len1 cap1 k rfl rfl hlt') hHeld ?_
            simp only [Act.put, List.setIfInBounds_toArray, List.set_cons_zero, List.set_cons_succ]
            refine takeD (i := 9) (some 74) (.pointer (some ⟨b, off + 5 * k + 3, none⟩)) rfl rfl (by kernel_rfl) (by kernel_rfl) (by kernel_rfl) (fun _ _ _ h => h) (yields_fld32 (by rfl) (.tmp 73) 3 rfl (by decide) b (off + 5 * k) _ rfl rfl) hHeld ?_
            simp only [Act.put, List.setIfInBounds_toArray, List.set_cons_zero, List.set_cons_succ]
            refine takeD (i := 10) (some 75) (.slice T1 m c1) rfl rfl (by kernel_rfl) (by kernel_rfl) (by kernel_rfl) (fun _ _ _ h => h) (yields_loadV (by rfl) 29 (.tmp 74) rfl (by decide) b (off + 5 * k + 3) _ rfl (fun _ h => h.2)) hHeld ?_
            simp only [Act.put, List.setIfInBounds_toArray, List.set_cons_zero, List.set_cons_succ]
            refine wpAnyH_ready (rs := [11]) (by kernel_rfl) (by decide) ?_
            refine AllReadyH.cons rfl (fun K' hK => ?_) AllReadyH.nil
            go_simp
            refine (ownB_any T1 m c1 l wr.drew (HB.out.below B0) (by omega)).mono ?_
            rintro e4 wo ⟨A6, c6, rfl, hc6, ho6, hb6⟩
            have HO6 := Lib.hid ho6
            have bo : Below wr.heap.size wr wo := B0.trans hb6
            clear ho6 hb6
            refine hK.out _ _ ⟨(World.cell?_of_block (a := ⟨b, off + 5 * k + 1, none⟩) (bo.block b (by omega))).trans c1', (World.cell?_of_block (a := ⟨b, off + 5 * k + 3, none⟩) (bo.block b (by omega))).trans c3'⟩ (fun hHeld1 => ?_)
            clear hK
            (try simp only [Act.put, List.setIfInBounds_toArray, List.set_cons_zero, List.set_cons_succ])
            refine wpAnyH_ready (rs := [12]) (by kernel_rfl) (by decide) ?_
            refine AllReadyH.cons rfl (fun K' hK => ?_) AllReadyH.nil
            go_simp
            refine (App_any gx (501 * k) m c6 fi A6 l FY wo (HTk.out.below bo) HOk.out (by omega) HO6.out.bs (own_foot HTk.out (show Own wo wr.heap.size 5 _ _ _ from HO6.out))).mono ?_
            rintro e5 w5 ⟨rfl, hg5⟩
            have HG5 := Lib.hid hg5
            clear hg5
            refine hK.out _ _ ⟨(World.cell?_of_block (a := ⟨b, off + 5 * k + 1, none⟩) ((HG5.out.2.block b (by have := bo.size; omega) (fun q => by have := HFk.out b q; omega)).trans (bo.block b (by omega)))).trans c1', (World.cell?_of_block (a := ⟨b, off + 5 * k + 3, none⟩) ((HG5.out.2.block b (by have := bo.size; omega) (fun q => by have := HFk.out b q; omega)).trans (bo.block b (by omega)))).trans c3'⟩ (fun hHeld2 => ?_)
            clear hK
            refine wpAnyH_done (by kernel_rfl) ?_ _
            refine NoPanic.normal ?_
            exact ⟨rfl, _, A6, c6, wo, rfl, bo, HG5.out⟩
          · rintro a' w6 ⟨E6, A6, c6, wo, rfl, bo, hg6⟩
            simp only [Act.put, List.setIfInBounds_toArray, List.set_cons_zero, List.set_cons_succ]
            obtain ⟨⟨F6, hF6, ht6⟩, ho6⟩ := hg6
            have HT6 := Lib.hid ht6
            have HW6 := Lib.hid hF6
            have hos : wr.heap.size ≤ wo.heap.size := bo.size
            have HTg6 := Lib.hid ((HTgk.out.below bo).outside ho6 (fun b q q2 => HDk.out b q q2))
            have HA6 := Lib.hid (((HAk.out.below bo).turn (G' := Foot gx F6) (fun b q => hF6.foot b q)))
            have HB6 := Lib.hid (((HBk.out.below bo).turn (G' := Foot gx F6) (fun b q => hF6.foot b q)))
            have HA6' := Lib.hid ((HAk.out.below bo).off ho6)
            have HB6' := Lib.hid ((HBk.out.below bo).off ho6)
            have HF6 := Lib.hid (fun b (q : Foot gx F6 b) => show w.heap.size ≤ b from by rcases hF6.foot b q with q | q; exact HFk.out b q; have := bq.size; omega)
            have HD6 := Lib.hid (fun b (q : Foot g F b) (q2 : Foot gx F6 b) => show False from by rcases hF6.foot b q2 with q2 | q2; exact HDk.out b q q2; have := HTgk.out.foot q; omega)
            have b6 : Below w.heap.size w w6 := (bq.trans (bo.mono bq.size)).trans (ho6.below HFk.out (bq.trans (bo.mono bq.size)).size)
            have c1w : w6.cell? ⟨b, off + 5 * k + 1, none⟩ = some (.int .i64 fi) := (World.cell?_of_block (a := ⟨b, off + 5 * k + 1, none⟩) ((ho6.block b (by omega) (fun q => by have := HFk.out b q; omega)).trans (bo.block b (by omega)))).trans c1'
            have c2w : w6.cell? ⟨b, off + 5 * k + 2, none⟩ = some (.int .i64 ni) := (World.cell?_of_block (a := ⟨b, off + 5 * k + 2, none⟩) ((ho6.block b (by omega) (fun q => by have := HFk.out b q; omega)).trans (bo.block b (by omega)))).trans c2'
            have hHO := ho6.size
            clear hF6 ht6 c1' c2' c3'
            go_wp2_with fail
            refine cutR (fun a a' w' => ∃ (E7 : Int), a' = ((((((((((((a.put (some 78) (.pointer (some ⟨gx, 0, none⟩))).put (some 79) (.slice (some ⟨b, off, none⟩) len1 cap1)).put (some 80) (.int .i64 (k : Int))).put (some 81) (.pointer (some ⟨b, off + 5 * k, none⟩))).put (some 82) (.pointer (some ⟨b, off + 5 * k + 1, none⟩))).put (some 83) (.int .i64 fi)).put (some 84) (.slice (some ⟨b, off, none⟩) len1 cap1)).put (some 85) (.int .i64 (k : Int))).put (some 86) (.pointer (some ⟨b, off + 5 * k, none⟩))).put (some 87) (.pointer (some ⟨b, off + 5 * k + 2, none⟩))).put (some 88) (.int .i64 ni)).put (some 89) (.int .i64 E7)) ∧ Grow w6 gx F6 ((T.append fi l).1.cutT fi ni).1 w') ?_ ?_
            · have B0 : Below w6.heap.size w6 w6.drew := (Below.refl w6.heap.size w6).drew
              refine wp_region_noPanic ?_
              refine wp_region_held_drew (S := fun w' => w'.cell? ⟨b, off + 5 * k + 1, none⟩ = some (.int .i64 fi) ∧ w'.cell? ⟨b, off + 5 * k + 2, none⟩ = some (.int .i64 ni)) (by kernel_rfl) ⟨c1w, c2w⟩ (fun hHeld => ?_)
              refine takeD (i := 0) (some 78) (.pointer (some ⟨gx, 0, none⟩)) rfl rfl (by kernel_rfl) (by kernel_rfl) (by kernel_rfl) (fun _ _ _ h => h) (Or.inl ⟨by rfl, fun _ _ => rfl⟩) hHeld ?_
              simp only [Act.put, List.setIfInBounds_toArray, List.set_cons_zero, List.set_cons_succ]
              refine takeD (i := 1) (some 79) (.slice (some ⟨b, off, none⟩) len1 cap1) rfl rfl (by kernel_rfl) (by kernel_rfl) (by kernel_rfl) (fun _ _ _ h => h) (Or.inl ⟨by rfl, fun _ _ => rfl⟩) hHeld ?_
              simp only [Act.put, List.setIfInBounds_toArray, List.set_cons_zero, List.set_cons_succ]
              refine takeD (i := 2) (some 80) (.int .i64 (k : Int)) rfl rfl (by kernel_rfl) (by kernel_rfl) (by kernel_rfl) (fun _ _ _ h => h) (Or.inl ⟨by rfl, fun _ _ => rfl⟩) hHeld ?_
              simp only [Act.put, List.setIfInBounds_toArray, List.set_cons_zero, List.set_cons_succ]
              refine takeD (i := 3) (some 81) (.pointer (some ⟨b, off + 5 * k, none⟩)) rfl rfl (by kernel_rfl) (by kernel_rfl) (by kernel_rfl) (fun _ _ _ h => h) (yields_indexK (by rfl) (.tmp 79) (.tmp 80) rfl b off len1 cap1 k rfl rfl hlt') hHeld ?_
              simp only [Act.put, List.setIfInBounds_toArray, List.set_cons_zero, List.set_cons_succ]
              refine takeD (i := 4) (some 82) (.pointer (some ⟨b, off + 5 * k + 1, none⟩)) rfl rfl (by kernel_rfl) (by kernel_rfl) (by kernel_rfl) (fun _ _ _ h => h) (yields_fld32 (by rfl) (.tmp 81) 1 rfl (by decide) b (off + 5 * k) _ rfl rfl) hHeld ?_
              simp only [Act.put, List.setIfInBounds_toArray, List.set_cons_zero, List.set_cons_succ]
              refine takeD (i := 5) (some 83) (.int .i64 fi) rfl rfl (by kernel_rfl) (by kernel_rfl) (by kernel_rfl) (fun _ _ _ h => h) (yields_cell (by rfl) 3 (.tmp 82) rfl (by decide) b (off + 5 * k + 1) _ rfl (fun _ h => h.1)) hHeld ?_
              simp only [Act.put, List.setIfInBounds_toArray, List.set_cons_zero, List.set_cons_succ]
              refine takeD (i := 6) (some 84) (.slice (some ⟨b, off, none⟩) len1 cap1) rfl rfl (by kernel_rfl) (by kernel_rfl) (by kernel_rfl) (fun _ _ _ h => h) (Or.inl ⟨by rfl, fun _ _ => rfl⟩) hHeld ?_
              simp only [Act.put, List.setIfInBounds_toArray, List.set_cons_zero, List.set_cons_succ]
              refine takeD (i := 7) (some 85) (.int .i64 (k : Int)) rfl rfl (by kernel_rfl) (by kernel_rfl) (by kernel_rfl) (fun _ _ _ h => h) (Or.inl ⟨by rfl, fun _ _ => rfl⟩) hHeld ?_
              simp only [Act.put, List.setIfInBounds_toArray, List.set_cons_zero, List.set_cons_succ]
              refine takeD (i := 8) (some 86) (.pointer (some ⟨b, off + 5 * k, none⟩)) rfl rfl (by kernel_rfl) (by kernel_rfl) (by kernel_rfl) (fun _ _ _ h => h) (yields_indexK (by rfl) (.tmp 84) (.tmp 85) rfl b off len1 cap1 k rfl rfl hlt') hHeld ?_
              simp only [Act.put, List.setIfInBounds_toArray, List.set_cons_zero, List.set_cons_succ]
              refine takeD (i := 9) (some 87) (.pointer (some ⟨b, off + 5 * k + 2, none⟩)) rfl rfl (by kernel_rfl) (by kernel_rfl) (by kernel_rfl) (fun _ _ _ h => h) (yields_fld32 (by rfl) (.tmp 86) 2 rfl (by decide) b (off + 5 * k) _ rfl rfl) hHeld ?_
              simp only [Act.put, List.setIfInBounds_toArray, List.set_cons_zero, List.set_cons_succ]
              refine takeD (i := 10) (some 88) (.int .i64 ni) rfl rfl (by kernel_rfl) (by kernel_rfl) (by kernel_rfl) (fun _ _ _ h => h) (yields_cell (by rfl) 3 (.tmp 87) rfl (by decide) b (off + 5 * k + 2) _ rfl (fun _ h => h.2)) hHeld ?_
              simp only [Act.put, List.setIfInBounds_toArray, List.set_cons_zero, List.set_cons_succ]
              refine wpAnyH_ready (rs := [11]) (by kernel_rfl) (by decide) ?_
              refine AllReadyH.cons rfl (fun K' hK => ?_) AllReadyH.nil
              go_simp
              refine (Cut_any gx (501 * k + l.length) fi ni F6 w6.drew (HT6.out.below B0) HOk1.out (by omega)).mono ?_
              rintro e5 w5 ⟨rfl, hg5⟩
              have HG5 := Lib.hid hg5
              clear hg5
              refine hK.out _ _ ⟨(World.cell?_of_block (w := w6.drew) (a := ⟨b, off + 5 * k + 1, none⟩) (HG5.out.2.block b (by show b < w6.heap.size; omega) (fun q => by have := HF6.out b q; omega))).trans c1w, (World.cell?_of_block (w := w6.drew) (a := ⟨b, off + 5 * k + 2, none⟩) (HG5.out.2.block b (by show b < w6.heap.size; omega) (fun q => by have := HF6.out b q; omega))).trans c2w⟩ (fun hHeld2 => ?_)
              clear hK
              refine wpAnyH_done (by kernel_rfl) ?_ _
              refine NoPanic.normal ?_
              exact ⟨rfl, _, rfl, ⟨HG5.out.1, ⟨HG5.out.2.os, HG5.out.2.tape, HG5.out.2.output, HG5.out.2.size, HG5.out.2.block⟩⟩⟩
            · rintro a' w7 ⟨E7, rfl, hg7⟩
              simp only [Act.put, List.setIfInBounds_toArray, List.set_cons_zero, List.set_cons_succ]
              have HG7 := Lib.hid hg7
              clear hg7 c1w c2w
              go_wp2
              go_roundw
              case rel =>
                obtain ⟨⟨F7, hF7, ht7⟩, ho7⟩ := HG7.out
                have hA : Kp w6 A4 ns NS (Foot gx F6) := ⟨HA6'.out.1, HA6.out.2⟩
                have hB : Kp w6 A5 nx NX (Foot gx F6) := ⟨HB6'.out.1, HB6.out.2⟩
                refine ⟨k + 1, _, F7, by omega, by go_num, Lib.hid ht7, Lib.hid ?_, Lib.hid (HTg6.out.outside ho7 (fun b q q2 => HD6.out b q q2)), Lib.hid (fun b q => ?_), Lib.hid (fun b q q2 => ?_), Lib.hid ((hA.off ho7).turn' ?_), Lib.hid ((hB.off ho7).turn' ?_), b6.trans (ho7.below HF6.out b6.size)⟩
                · exact (cut_ok fi ni HOk1.out).mono (by omega)
                · rcases hF7.foot b q with q | q
                  · exact HF6.out b q
                  · exact Nat.le_trans b6.size q
                · rcases hF7.foot b q2 with q2 | q2
                  · exact HD6.out b q q2
                  · have := HTg6.out.foot q; omega
                · exact ⟨w6, hA.1, hF7.foot⟩
                · exact ⟨w6, hB.1, hF7.foot⟩
              case measure => simp [intOf]; omega
        · obtain rfl : k = len1 := by omega
          have HBg0 := Lib.hid (show Kp wr A4 ns NS (Foot g F) from ⟨HAk.out.1, HBag.out.2⟩)
          have HBx0 := Lib.hid (show Kp wr A5 nx NX (Foot g F) from ⟨HBk.out.1, HBbg.out.2⟩)
          clear HTk HOk HDk HAk HBk HFk
          go_wp2_with (first
            | (go_at_call 22; refine (HRs.out g F wr HTgk.out).mono ?_; rintro e7 w7 ⟨A7, c7, rfl, hB7, hc7, hf7, hb7⟩; have HBc := Lib.hid (show Kp w7 A7 ns NS (Foot g F) from Kp.of hB7 hf7 (fun b q => HTgk.out.foot q)); have HTg7 := Lib.hid (HTgk.out.below hb7); have b7 := bq.trans (hb7.mono bq.size); clear hB7 hf7)
            | (with_reducible refine wpList_copyI rfl (.tmp 97) (.tmp 98) rfl rfl a2 len2 cap2 l2 rfl (HK.out.below b7) (by omega) ?_; intro A8 c8 w8 hI8 hb8; have HI8 := Lib.hid hI8; have HTg8 := Lib.hid (HTg7.out.below hb8); clear hI8)
            | (go_at_call 14; refine (HCr.out g F w8 A8 c8 HTg8.out HI8.out).mono ?_; rintro e9 w9 ⟨gy, FZ, rfl, ht9, hf9, hb9⟩; have HT9 := Lib.hid ht9; have HF9 := Lib.hid hf9; have HTg9 := Lib.hid (HTg8.out.below hb9); have k9 := hb8.trans (hb9.mono hb8.size); have b9 := b7.trans (k9.mono b7.size); have k79 := hb7.trans (k9.mono hb7.size); have HA9 := Lib.hid (HBg0.out.below k79); have HB9 := Lib.hid (HBx0.out.below k79); have HC9 := Lib.hid (HBc.out.below k9); clear ht9 hf9))
          have HDy := Lib.hid (fun b (q : Foot gy FZ b) (q2 : Foot g F b) => show False from by have := HF9.out b q; have := HTg7.out.foot q2; have := hb8.size; omega)
          go_loopw [18] (fun x wr => ∃ (q : Nat) (T : Tp) (FT : Nat → Nat → Prop), q ≤ k ∧ x = .int .i64 (q : Int) ∧ Hid (Tap wr g FT T) ∧ Hid (T.ok (30060 + 501 * q)) ∧ Hid T.free ∧ Hid (M ≤ (T.f i).opn.length) ∧ Hid (Tap wr gy FZ X) ∧ Hid (∀ b, Foot g FT b → w.heap.size ≤ b) ∧ Hid (∀ b, Foot gy FZ b → Foot g FT b → False) ∧ Hid (Kp wr A4 ns NS (Foot g FT)) ∧ Hid (Kp wr A5 nx NX (Foot g FT)) ∧ Hid (Kp wr A7 ns NS (Foot g FT)) ∧ Below w.heap.size w wr) (fun x _ => k - (intOf x).toNat)
          case atStart => exact ⟨0, S, F, Nat.zero_le _, rfl, HTg9, Lib.hid HSx.out.1, Lib.hid HSx.out.2, Lib.hid (Nat.le_of_eq HM0.out.symm), HT9, HFg, HDy, HA9, HB9, HC9, b9⟩
          case round =>
            clear HTg HTx HFx HDj HTg4 HTx4 HTg5 HTx5 HBa HBag HBa5 HBag5 HBb HBbg HTgk HBg0 HBx0 HBc HTg7 HI8 HTg8 HT9 HF9 HTg9 HA9 HB9 HC9 HDy
            obtain ⟨q, T, FT, hq, rfl, HTk, HOk, HFr, HMk, HTy, HFk, HDk, HAk, HBk, HCk, bp⟩ := hrel
            by_cases hlt : q < k
            · obtain ⟨x, b, off, T1, m, c1, I, p, d, hx, rfl, hbl, hr, hB, hmc, _, _⟩ := (HM.out.below bp).get hlt
              have hbw : b < w.heap.size := by
                obtain ⟨_, b', off', _, _, _, _, _, _, _, e', hb', _⟩ := HM.out.get hlt
                injection e' with e'
                injection e' with e'
                omega
              have hm5 := HM5.out x (List.mem_of_getElem? hx)
              obtain ⟨ki, fi, ni, l, kept⟩ := x
              simp only at hr hB hm5
              have HB := Lib.hid hB
              have hm : m ≤ 500 := by have := hB.1; omega
              have c1' : wr.cell? ⟨b, off + 5 * q + 1, none⟩ = some (.int .i64 fi) := hr 1 _ rfl
              have c3' : wr.cell? ⟨b, off + 5 * q + 3, none⟩ = some (.slice T1 m c1) := hr 3 _ rfl
              have HOk1 := Lib.hid (append_ok fi l HOk.out)
              have HQ := Lib.hid (append_any fi l HFr.out)
              have hml : l.length = m := hB.1
              have hlt' : q < k := hlt
              have hK : 501 * q ≤ 30060 := by omega
              clear hr hB hx hm5
              go_wp2_with fail
              refine cutR (fun a a' w' => ∃ (E6 : Int) (A6 : Option Addr) (c6 : Nat) (wo : World), a' = (((((((((((((a.put (some 107) (.pointer (some ⟨g, 0, none⟩))).put (some 108) (.slice (some ⟨b, off, none⟩) k cap1)).put (some 109) (.int .i64 (q : Int))).put (some 110) (.pointer (some ⟨b, off + 5 * q, none⟩))).put (some 111) (.pointer (some ⟨b, off + 5 * q + 1, none⟩))).put (some 112) (.int .i64 fi)).put (some 113) (.slice (some ⟨b, off, none⟩) k cap1)).put (some 114) (.int .i64 (q : Int))).put (some 115) (.pointer (some ⟨b, off + 5 * q, none⟩))).put (some 116) (.pointer (some ⟨b, off + 5 * q + 3, none⟩))).put (some 117) (.slice T1 m c1)).put (some 118) (.slice A6 m c6)).put (some 119) (.int .i64 E6)) ∧ Below wr.heap.size wr wo ∧ Grow wo g FT (T.append fi l).1 w') ?_ ?_
              · have B0 : Below wr.heap.size wr wr.drew := (Below.refl wr.heap.size wr).drew
                refine wp_region_noPanic ?_
                refine wp_region_held_drew (S := fun w' => w'.cell? ⟨b, off + 5 * q + 1, none⟩ = some (.int .i64 fi) ∧ w'.cell? ⟨b, off + 5 * q + 3, none⟩ = some (.slice T1 m c1)) (by kernel_rfl) ⟨c1', c3'⟩ (fun hHeld => ?_)
                refine takeD (i := 0) (some 107) (.pointer (some ⟨g, 0, none⟩)) rfl rfl (by kernel_rfl) (by kernel_rfl) (by kernel_rfl) (fun _ _ _ h => h) (Or.inl ⟨by rfl, fun _ _ => rfl⟩) hHeld ?_
                simp only [Act.put, List.setIfInBounds_toArray, List.set_cons_zero, List.set_cons_succ]
                refine takeD (i := 1) (some 108) (.slice (some ⟨b, off, none⟩) k cap1) rfl rfl (by kernel_rfl) (by kernel_rfl) (by kernel_rfl) (fun _ _ _ h => h) (Or.inl ⟨by rfl, fun _ _ => rfl⟩) hHeld ?_
                simp only [Act.put, List.setIfInBounds_toArray, List.set_cons_zero, List.set_cons_succ]
                refine takeD (i := 2) (some 109) (.int .i64 (q : Int)) rfl rfl (by kernel_rfl) (by kernel_rfl) (by kernel_rfl) (fun _ _ _ h => h) (Or.inl ⟨by rfl, fun _ _ => rfl⟩) hHeld ?_
                simp only [Act.put, List.setIfInBounds_toArray, List.set_cons_zero, List.set_cons_succ]
                refine takeD (i := 3) (some 110) (.pointer (some ⟨b, off + 5 * q, none⟩)) rfl rfl (by kernel_rfl) (by kernel_rfl) (by kernel_rfl) (fun _ _ _ h => h) (yields_indexK (by rfl) (.tmp 108) (.tmp 109) rfl b off k cap1 q rfl rfl hlt') hHeld ?_
                simp only [Act.put, List.setIfInBounds_toArray, List.set_cons_zero, List.set_cons_succ]
                refine takeD (i := 4) (some 111) (.pointer (some ⟨b, off + 5 * q + 1, none⟩)) rfl rfl (by kernel_rfl) (by kernel_rfl) (by kernel_rfl) (fun _ _ _ h => h) (yields_fld32 (by rfl) (.tmp 110) 1 rfl (by decide) b (off + 5 * q) _ rfl rfl) hHeld ?_
                simp only [Act.put, List.setIfInBounds_toArray, List.set_cons_zero, List.set_cons_succ]
                refine takeD (i := 5) (some 112) (.int .i64 fi) rfl rfl (by kernel_rfl) (by kernel_rfl) (by kernel_rfl) (fun _ _ _ h => h) (yields_cell (by rfl) 3 (.tmp 111) rfl (by decide) b (off + 5 * q + 1) _ rfl (fun _ h => h.1)) hHeld ?_
                simp only [Act.put, List.setIfInBounds_toArray, List.set_cons_zero, List.set_cons_succ]
                refine takeD (i := 6) (some 113) (.slice (some ⟨b, off, none⟩) k cap1) rfl rfl (by kernel_rfl) (by kernel_rfl) (by kernel_rfl) (fun _ _ _ h => h) (Or.inl ⟨by rfl, fun _ _ => rfl⟩) hHeld ?_
                simp only [Act.put, List.setIfInBounds_toArray, List.set_cons_zero, List.set_cons_succ]
                refine takeD (i := 7) (some 114) (.int .i64 (q : Int)) rfl rfl (by kernel_rfl) (by kernel_rfl) (by kernel_rfl) (fun _ _ _ h => h) (Or.inl ⟨by rfl, fun _ _ => rfl⟩) hHeld ?_
                simp only [Act.put, List.setIfInBounds_toArray, List.set_cons_zero, List.set_cons_succ]
                refine takeD (i := 8) (some 115) (.pointer (some ⟨b, off + 5 * q, none⟩)) rfl rfl (by kernel_rfl) (by kernel_rfl) (by kernel_rfl) (fun _ _ _ h => h) (yields_indexK (by rfl) (.tmp 113) (.tmp 114) rfl b off k cap1 q rfl rfl hlt') hHeld ?_
                simp only [Act.put, List.setIfInBounds_toArray, List.set_cons_zero, List.set_cons_succ]
                refine takeD (i := 9) (some 116) (.pointer (some ⟨b, off + 5 * q + 3, none⟩)) rfl rfl (by kernel_rfl) (by kernel_rfl) (by kernel_rfl) (fun _ _ _ h => h) (yields_fld32 (by rfl) (.tmp 115) 3 rfl (by decide) b (off + 5 * q) _ rfl rfl) hHeld ?_
                simp only [Act.put, List.setIfInBounds_toArray, List.set_cons_zero, List.set_cons_succ]
                refine takeD (i := 10) (some 117) (.slice T1 m c1) rfl rfl (by kernel_rfl) (by kernel_rfl) (by kernel_rfl) (fun _ _ _ h => h) (yields_loadV (by rfl) 29 (.tmp 116) rfl (by decide) b (off + 5 * q + 3) _ rfl (fun _ h => h.2)) hHeld ?_
                simp only [Act.put, List.setIfInBounds_toArray, List.set_cons_zero, List.set_cons_succ]
                refine wpAnyH_ready (rs := [11]) (by kernel_rfl) (by decide) ?_
                refine AllReadyH.cons rfl (fun K' hK => ?_) AllReadyH.nil
                go_simp
                refine (ownB_any T1 m c1 l wr.drew (HB.out.below B0) (by omega)).mono ?_
                rintro e4 wo ⟨A6, c6, rfl, hc6, ho6, hb6⟩
                have HO6 := Lib.hid ho6
                have bo : Below wr.heap.size wr wo := B0.trans hb6
                clear ho6 hb6
                refine hK.out _ _ ⟨(World.cell?_of_block (a := ⟨b, off + 5 * q + 1, none⟩) (bo.block b (by omega))).trans c1', (World.cell?_of_block (a := ⟨b, off + 5 * q + 3, none⟩) (bo.block b (by omega))).trans c3'⟩ (fun hHeld1 => ?_)
                clear hK
                (try simp only [Act.put, List.setIfInBounds_toArray, List.set_cons_zero, List.set_cons_succ])
                refine wpAnyH_ready (rs := [12]) (by kernel_rfl) (by decide) ?_
                refine AllReadyH.cons rfl (fun K' hK => ?_) AllReadyH.nil
                go_simp
                refine (App_any g (30060 + 501 * q) m c6 fi A6 l FT wo (HTk.out.below bo) HOk.out (by omega) HO6.out.bs (own_foot HTk.out (show Own wo wr.heap.size 5 _ _ _ from HO6.out))).mono ?_
                rintro e5 w5 ⟨rfl, hg5⟩
                have HG5 := Lib.hid hg5
                clear hg5
                refine hK.out _ _ ⟨(World.cell?_of_block (a := ⟨b, off + 5 * q + 1, none⟩) ((HG5.out.2.block b (by have := bo.size; omega) (fun q => by have := HFk.out b q; omega)).trans (bo.block b (by omega)))).trans c1', (World.cell?_of_block (a := ⟨b, off + 5 * q + 3, none⟩) ((HG5.out.2.block b (by have := bo.size; omega) (fun q => by have := HFk.out b q; omega)).trans (bo.block b (by omega)))).trans c3'⟩ (fun hHeld2 => ?_)
                clear hK
                refine wpAnyH_done (by kernel_rfl) ?_ _
                refine NoPanic.normal ?_
                exact ⟨rfl, _, A6, c6, wo, rfl, bo, HG5.out⟩
              · rintro a' w6 ⟨E6, A6, c6, wo, rfl, bo, hg6⟩
                simp only [Act.put, List.setIfInBounds_toArray, List.set_cons_zero, List.set_cons_succ]
                have HG6 := Lib.hid hg6
                have BO := Lib.hid bo
                clear hg6 c1' c3' bo
                go_wp2
                go_roundw
                case rel =>
                  obtain ⟨⟨F7, hF7, ht7⟩, ho7⟩ := HG6.out
                  have bo := BO.out
                  have b7 := bp.trans (bo.mono bp.size)
                  refine ⟨q + 1, _, F7, by omega, by go_num, Lib.hid ht7, Lib.hid (HOk1.out.mono (by omega)), Lib.hid HQ.out.1, Lib.hid ?_, Lib.hid ((HTy.out.below bo).outside ho7 (fun b q q2 => HDk.out b q q2)), Lib.hid (fun b q => ?_), Lib.hid (fun b q q2 => ?_), Lib.hid (((HAk.out.below bo).off ho7).turn' ?_), Lib.hid (((HBk.out.below bo).off ho7).turn' ?_), Lib.hid (((HCk.out.below bo).off ho7).turn' ?_), b7.trans (ho7.below HFk.out b7.size)⟩
                  · have hM1 := HMk.out
                    rcases HQ.out.2 with e | ⟨e1, e2⟩
                    · rw [e]; exact hM1
                    · by_cases hj : i = fi.toNat
                      · rw [hj, e1, ← hj]; simp; omega
                      · rw [e2 i hj]; exact hM1
                  · rcases hF7.foot b q with q | q
                    · exact HFk.out b q
                    · exact Nat.le_trans b7.size q
                  · rcases hF7.foot b q2 with q2 | q2
                    · exact HDk.out b q q2
                    · have := HTy.out.foot q; have := bo.size; omega
                  · exact ⟨wo, (HAk.out.below bo).1, hF7.foot⟩
                  · exact ⟨wo, (HBk.out.below bo).1, hF7.foot⟩
                  · exact ⟨wo, (HCk.out.below bo).1, hF7.foot⟩
                case measure => simp [intOf]; omega
            · obtain rfl : q = k := by omega
              have HOt := Lib.hid (fun w h => show Calls Try.prog 26 #[.pointer (some ⟨g, 0, none⟩), .int .i64 (i : Int)] w (fun e w' => e = .returned (.int .i64 ((T.f i).opn.length : Int)) ∧ w = w') from by
                have q := Open_any (S := T) g i FT w h
                rw [open_in hi] at q; exact q)
              have hMI : ¬ ((T.f i).opn.length : Int) < (M : Int) := by have := HMk.out; omega
              generalize (T.f i).opn.length = MT at *
              go_wp2_with (first
                | (go_at_call 22; refine (HRx.out gy FZ wr HTy.out).mono ?_; rintro e10 w10 ⟨A10, c10, rfl, hB10, hc10, _, hb10⟩; have HBd := Lib.hid hB10; have HT10 := Lib.hid (HTk.out.below hb10); have HA10 := Lib.hid (HAk.out.1.below hb10); have HB10 := Lib.hid (HBk.out.1.below hb10); have HC10 := Lib.hid (HCk.out.1.below hb10); have b10 := bp.trans (hb10.mono bp.size); clear hB10)
                | (go_at_call 25; have hz := m11; clear hz; refine (Same_yes A5 A10 nx c5 c10 NX (w10.drewN m11) (HB10.out.drewN _) (HBd.out.drewN _) (by omega)).mono ?_; rintro e12 w12 ⟨rfl, m12, rfl⟩)
                | (go_at_call 25; refine (Same_yes A4 A7 ns c4 c7 NS w10 HA10.out HC10.out (by omega)).mono ?_; rintro e11 w11 ⟨rfl, m11, rfl⟩)
                | (go_at_call 26; refine (HOt.out _ (HT10.out.drewN _)).mono ?_; rintro e13 w13 ⟨rfl, rfl⟩)
                | (go_at_call 20; refine (HP.out _ (HC.out.below (b10.trans (Below.mono (below_drewN (Below.refl w10.heap.size w10) _) b10.size)))).mono ?_; rintro e14 w14 ⟨g2, F2, rfl, ht14, hf14, hb14⟩; have HT14 := Lib.hid ht14; have b14 := b10.trans (Below.mono (show Below w10.heap.size w10 w14 from (below_drewN (Below.refl w10.heap.size w10) _).trans hb14) b10.size); have HF14 := Lib.hid (fun b q => show w.heap.size ≤ b from Nat.le_trans b10.size (hf14 b q)); clear ht14 hf14)
                | (with_reducible refine wpList_copyI rfl (.tmp 162) (.tmp 163) rfl rfl a2 len2 cap2 l2 rfl (HK.out.below b14) (by omega) ?_; intro A15 c15 w15 hI15 hb15; have HI15 := Lib.hid hI15; have HT15 := Lib.hid (HT14.out.below hb15); clear hI15)
                | (go_at_call 14; refine (HCr.out g2 F2 w15 A15 c15 HT15.out HI15.out).mono ?_; rintro e16 w16 ⟨gx2, FX2, rfl, ht16, hf16, hb16⟩; have HT16 := Lib.hid ht16; have HF16 := Lib.hid hf16; have HTg16 := Lib.hid (HT15.out.below hb16); have k16 := hb15.trans (hb16.mono hb15.size); clear ht16 hf16))
              go_roundw
              case rel =>
                refine ⟨i + 1, g2, gx2, F2, FX2, by omega, by go_num, rfl, rfl, HTg16, HT16, HF14, Lib.hid (fun b q => ?_), Lib.hid (fun b q q2 => ?_), b14.trans (k16.mono b14.size)⟩
                · have := HF16.out b q; have := b14.size; have := hb15.size; omega
                · have := HT14.out.foot q; have := HF16.out b q2; have := hb15.size; omega
              case measure => simp [intOf]; omega
    · obtain rfl : i = 4 := by omega
      go_wp2_with (go_at_call 11; refine (awake_any _).mono ?_; rintro e4 w4 ⟨rfl, hb4⟩)
      go_ret
      exact ⟨rfl, bk.trans (hb4.mono bk.size)⟩

set_option maxRecDepth 100000 in
theorem lifted (os : Os) (started : os.Started) (H : Type) (enc : TypeId × Value → H) :
    ReturnsInHanded {} Try.checked os 6 .any (Rows.tapeApartSpec.pre6 enc Try.prog Try.f6 Rows.tapeApartRow.domain false) (Rows.tapeApartSpec.post enc Try.prog Try.f6 false true false false) := by
  refine returnsInHanded_of_change_sized (C := Try.checked) own started (by kernel_rfl) Try.func6
    (ChangeSpec.witness6 (enc := enc) (C := Try.checked) false ⟨#[], #[.slice none 0 0, .slice none 0 0, .slice none 0 0], []⟩ 8 (by kernel_rfl) (by kernel_rfl) (by kernel_rfl) (by kernel_rfl)) ?_
  intro W base args ds gs before hval0 hW hcnd hsz0 _
  have hval : ∀ (j : Nat) t v, Try.f6.params[j]? = some t → args[j]? = some v → Value.okWide Try.prog W .any base t v := hval0
  have hW' := hW
  obtain ⟨p, q, hA0, hV, rfl, hfz, hnd⟩ := hW
  have hA : DataW.TrodAll enc Try.prog W 0 (fun _ => true) true Try.f6.params.toList args.toList ds p := hA0
  have hsz : (DataW.weightsEach Try.prog (Try.f6.params.toList ++ Rows.tapeApartSpec.plain.varTypes Try.prog) (ds ++ gs)).all (· ≤ reachBytes) = true := hsz0
  rw [Try.params6] at hA hval hsz
  obtain ⟨v0, vs0, d0, ds0, p0, q0, hargs, rfl, rfl, h0, r0⟩ := trodAll_cons hA
  obtain ⟨v1, vs1, d1, ds1, p1, q1, rfl, rfl, rfl, h1, r1⟩ := trodAll_cons r0
  obtain ⟨v2, vs2, d2, ds2, p2, q2, rfl, rfl, rfl, h2, r2⟩ := trodAll_cons r1
  obtain ⟨rfl, rfl, rfl⟩ := trodAll_nil r2
  obtain rfl : args = #[v0, v1, v2] := by cases args; simp_all
  obtain ⟨rfl, rfl⟩ := trodVars_none hV
  have k0 := h0
  have lt0 : ∀ x ∈ p0, x.block < W.heap.size := by obtain ⟨m, hm⟩ := k0; exact DataW.trod_lt m _ _ _ hm
  obtain ⟨a0, len0, cap0, l0, rfl, w0⟩ := open_cls (hval 0 22 v0 rfl rfl) h0
  have k1 := h1
  have lt1 : ∀ x ∈ p1, x.block < W.heap.size := by obtain ⟨m, hm⟩ := k1; exact DataW.trod_lt m _ _ _ hm
  obtain ⟨a1, len1, cap1, l1, rfl, w1⟩ := open_cls (hval 1 22 v1 rfl rfl) h1
  have k2 := h2
  have lt2 : ∀ x ∈ p2, x.block < W.heap.size := by obtain ⟨m, hm⟩ := k2; exact DataW.trod_lt m _ _ _ hm
  obtain ⟨a2, len2, cap2, l2, rfl, w2⟩ := open_is (hval 2 30 v2 rfl rfl) h2
  clear hA0 hval0
  refine (walk W a0 len0 cap0 l0 w0 a1 len1 cap1 l1 w1 a2 len2 cap2 l2 w2).mono fun e W' ⟨he, bel⟩ => ?_
  subst he
  exact ⟨_, rfl, _, _, _, [], _, [], hW', trodAll_mk1 (shut_bool Try.underlying4 _), (trodAll_cons_mk (Below.trod laidOut (by kernel_rfl) (of_decide_eq_true (by kernel_rfl)) k0 bel lt0) (trodAll_cons_mk (Below.trod laidOut (by kernel_rfl) (of_decide_eq_true (by kernel_rfl)) k1 bel lt1) (trodAll_cons_mk (Below.trod laidOut (by kernel_rfl) (of_decide_eq_true (by kernel_rfl)) k2 bel lt2) trodAll_mk0))), rfl, bel.frame _, fun h => by cases h⟩
theorem over : Rows.tapeApartRow.holds Try.pinned (OpenSpec.ofChange Rows.tapeApartSpec) :=
  OpenClaim.holds_of_wide 6 Try.f6 rfl rfl rfl rfl rfl rfl rfl ⟨rfl, rfl, rfl, rfl, rfl⟩ rfl rfl rfl rfl rfl (by kernel_rfl) Try.func6 (by kernel_rfl)
    (of_decide_eq_true (by kernel_rfl)) (by unfold Func.isWrapper; first | (rw [if_pos (by decide +kernel)]; kernel_rfl) | (rw [if_neg (by decide +kernel)]; exact ⟨rfl, rfl⟩))
    (fun os started H enc _ => lifted os started H enc)
theorem tapeApart_holds : Rows.TapeApartSaid := over
#print axioms tapeApart_holds
end Go.Proofs.Ytpnllbadalcnaaa.tapeApart
