/-
  VaultOwn, whole, as the tied card (Rows.VaultOwnCardSaid): for every list of calls (up to 40 are played, 500 bytes each): whoever writes into all that was handed in to Add and to Save, and into all that Records and Text answered, changes nothing that the vault has: it has what the document's has; and the document's example. Conditions: the table sha.constants reads as its initialiser lays it (tied to the program's text).
-/
import Derived.Test.YtgiobcpljbpmiaaDoorRows
import Derived.Test.YtgiobcpljbpmiaaDoorCards
import Derived.Test.YtgiobcpljbpmiaaDoorTie
import Derived.WalkKit
import Derived.ProofKit
import Derived.OpenShut
import Derived.ChangeMaps5
import Derived.ShutString
import Derived.ChangeOld
import Derived.Below
import Derived.SizedLaws
import Derived.SevenTiedAt
import Derived.Lay
import Derived.LaidLaws
import Derived.Test.YtgiobcpljbpmiaaDoorVltW
namespace Go.Proofs.YtgiobcpljbpmiaaDoor.vaultOwn
open Go.ChangeShapes Go.WideShapes Go.ChangeAt Go.RowKit
open Go.ChangeMaps (open_string shut_string)
set_option linter.unusedVariables false
theorem own : ownKnob Tryd.prog.godebug = none := by kernel_rfl
theorem laidOut : laidOutB Tryd.prog = true := by kernel_rfl
set_option maxRecDepth 100000 in
set_option maxHeartbeats 8000000 in
theorem walk (w : World) (a0 : Option Addr) (len0 cap0 : Nat) (L0 : List Cl) (w0 : Cls w a0 len0 L0) (hT : Tab 2 w) :
    Calls Tryd.prog 8 #[.slice a0 len0 cap0] w fun e w' => e = .returned (.bool true) ∧ Below w.heap.size w w' := by
  have HT := Lib.hid hT
  have HC := Lib.hid w0
  have HLo := Lib.hid (Long_any a0 len0 cap0 L0 w w0)
  obtain ⟨q, hq⟩ : ∃ q, longC L0 = q := ⟨_, rfl⟩
  rw [hq] at HLo
  cases q with
  | true =>
    clear hT w0 hq
    go_enter Tryd.func8, Tryd.ntmps8
    go_wp2_with (first
      | (go_at_call 10; refine HLo.out.mono ?_; rintro e1 w1 ⟨rfl, rfl⟩)
      | (go_at_call 11; refine (awake_any w HT.out).mono ?_; rintro e9 w9 ⟨rfl, hb9⟩; have B9 := hb9; clear hb9))
    go_ret
    exact ⟨rfl, B9⟩
  | false =>
    obtain ⟨hn40, hall⟩ := longC_no hq
    rw [w0.1] at hn40
    have HAll := Lib.hid hall
    clear hT w0 hq hall
    go_enter Tryd.func8, Tryd.ntmps8
    go_wp2_with (first
      | (go_at_call 10; refine HLo.out.mono ?_; rintro e1 w1 ⟨rfl, rfl⟩)
      | (go_at_call 12; refine (VNew w HT.out).mono ?_; rintro e1 w1 ⟨g, P0, rfl, hP0, ht1, hb1⟩; have HT1 := Lib.hid ht1; have HP0 := Lib.hid hP0; have B1 := hb1; have T1 := Lib.hid (HT.out.below hb1); clear ht1 hP0 hb1)
      | (go_at_call 13; refine (VFirst w1 g P0 HT1.out T1.out).mono ?_; rintro e2 w2 ⟨v, rfl, ho2, P2, S2, hg2, hv2, hc2, hl2⟩; have V2 := Lib.hid hv2; have HP2 := Lib.hid (hg2.base HP0.out B1.size); have B2 : Below w.heap.size w w2 := B1.trans (ho2.below HP0.out B1.size); have HC2 := Lib.hid hc2; have HL2 := Lib.hid hl2; have hX2 := (Below.refl w2.heap.size w2).alloc (Nat.le_refl _) (.cells #[.int .i64 0, .slice none 0 0, .slice none 0 0] 35); have HX2 := Lib.hid hX2; have HR2 := Lib.hid (Row.new w2 35 #[.int .i64 0, .slice none 0 0, .slice none 0 0]); have hPr : Pair (w2.alloc (.cells #[.int .i64 0, .slice none 0 0, .slice none 0 0] 35)) v g w2.heap.size P2 (fun b => b = w2.heap.size) S2 Vs.new := ⟨hv2.below hX2, ⟨rfl, fun b q => by subst q; exact HR2.out.lt, none, 0, 0, .slice none 0 0, HR2.out, Own.nil _ _ _, fun b q => by simp [Value.ownBlock] at q, Texts.nil _ _⟩, hl2, fun b q q2 => by subst q2; have := hv2.1 _ q; omega⟩; have HPr := Lib.hid hPr; clear hg2 hv2 hc2 hl2 ho2 hX2 hPr))
    have hs2 := B2.size
    have BX : Below w.heap.size w (w2.alloc (.cells #[.int .i64 0, .slice none 0 0, .slice none 0 0] 35)) := B2.trans (HX2.out.mono hs2)
    obtain ⟨m, hm⟩ : ∃ m, w2.heap.size = m := ⟨_, rfl⟩
    obtain ⟨w3, hw3⟩ : ∃ w3, w2.alloc (.cells #[.int .i64 0, .slice none 0 0, .slice none 0 0] 35) = w3 := ⟨_, rfl⟩
    rw [hm, hw3] at HPr
    rw [hw3] at BX
    have HPr3 := HPr
    have HPD3 := Lib.hid (show ∀ b, P2 b ∨ b = m → w.heap.size ≤ b from fun b q => by
      rcases q with q | q
      · exact HP2.out b q
      · omega)
    have HCC := Lib.hid (show (S2.cont 0).length ≤ 0 by rw [HC2.out 0]; simp)
    rw [hm, hw3]
    clear hs2 hm hw3 HPr HR2 HX2 V2 HC2 HL2 HP2 B2 HT1 HP0 B1 T1
    go_loopw [6] (fun i wr => ∃ (k : Nat) (P D : Nat → Prop) (S : Tp) (V : Vs), k ≤ len0 ∧ i = .int .i64 (k : Int) ∧ Hid (Pair wr v g m P D S V) ∧ Hid (∀ b, P b ∨ D b → w.heap.size ≤ b) ∧ Hid (Below w.heap.size w wr) ∧ V.gen ≤ k ∧ Hid ((S.cont 0).length ≤ 600 * k)) (fun i _ => len0 - (intOf i).toNat)
    case atStart => exact ⟨0, P2, (fun b => b = m), S2, Vs.new, Nat.zero_le _, rfl, HPr3, HPD3, Lib.hid BX, Nat.le_refl _, HCC⟩
    case round =>
      obtain ⟨k, P, D, S, V, hk, rfl, HPr, HPD, HBl, hgk, HCk⟩ := hrel
      clear HPr3 HPD3 HCC BX
      by_cases hlt : k < len0
      · obtain ⟨x, b, off, T, mm, c1, I, p, d, hx, rfl, hb, hr, hBx, _, _⟩ := HC.out.get hlt
        obtain ⟨hx5, _⟩ := HAll.out x (List.mem_of_getElem? hx)
        have HTr := Lib.hid (HT.out.below HBl.out)
        have hrr : ∀ wq : World, wq.heap[b]? = w.heap[b]? → wq.rangeAt b (off + 3 * k) (clC x.kind T mm c1 I p d).toList := fun wq hq j v hv => (World.cell?_of_block (a := ⟨b, off + 3 * k + j, none⟩) hq).trans (hr j v hv)
        have HRr := Lib.hid hrr
        have hq0 := HBl.out.block b hb
        have c0 : wr.cell? ⟨b, off + 3 * k, none⟩ = some (.int .i64 x.kind) := hrr wr hq0 0 _ rfl
        have c1' : wr.cell? ⟨b, off + 3 * k + 1, none⟩ = some (.slice T mm c1) := hrr wr hq0 1 _ rfl
        have HB := Lib.hid (hBx.below HBl.out)
        have hTf : mm = 0 ∨ ∀ b off, T = some ⟨b, off, none⟩ → ¬ P b ∧ ¬ D b := (Nat.eq_zero_or_pos mm).imp id (fun hm0 b' off' e => by
          obtain ⟨b2, o2, x2, e2, hlt2, _⟩ := hBx.get (k := 0) (by omega)
          rw [e] at e2
          injection e2 with e2
          injection e2 with e2
          subst e2
          exact ⟨fun q => by have := HPD.out _ (.inl q); omega, fun q => by have := HPD.out _ (.inr q); omega⟩)
        have HTf := Lib.hid hTf
        have hmm : mm ≤ 500 := by rw [← hBx.1]; exact hx5
        have HOw := Lib.hid (own_any T mm c1 x.b wr HB.out (by omega))
        have HML := Lib.hid hBx.1
        unfold S4NewSlice at HOw
        rw [hBx.1] at HOw
        have hnP : ∀ b', b' < w.heap.size → ¬ P b' ∧ ¬ D b' := fun b' h => ⟨fun q => by have := HPD.out _ (.inl q); omega, fun q => by have := HPD.out _ (.inr q); omega⟩
        have HnP := Lib.hid (hnP b hb)
        have HBlt := Lib.hid hb
        have hcnt : V.recs.length + 1 ≤ 1000000000 := by have := HPr.out.1.small.2.2.2; omega
        obtain ⟨ki, hki⟩ : ∃ ki, x.kind = ki := ⟨_, rfl⟩
        rw [hki] at c0
        clear hr hBx hx hrr hx5 hki hTf hnP hq0
        by_cases hk1 : ki = 1
        · have i1 : (ki == 1) = true := by rw [hk1]; rfl
          clear hk1
          go_wp2_with (first
            | (with_reducible refine wpList_indexK (by with_unfolding_all rfl) (.tmp 30) (.tmp 31) rfl b off len0 cap0 k _ _ rfl rfl rfl hlt rfl ?_)
            | (with_reducible refine wpList_indexK (by with_unfolding_all rfl) (.tmp 36) (.tmp 37) rfl b off len0 cap0 k _ _ rfl rfl rfl hlt rfl ?_)
            | (with_reducible refine wpList_indexK (by with_unfolding_all rfl) (.tmp 46) (.tmp 47) rfl b off len0 cap0 k _ _ rfl rfl rfl hlt rfl ?_)
            | (go_at_call 20; refine HOw.out.mono ?_; rintro e3 w3 ⟨A3, c3, rfl, hc3, hb3, ho3⟩; have HB3 := Lib.hid hb3; have HO3 := Lib.hid ho3; have hq3 := (hb3.block b (Nat.lt_of_lt_of_le HBlt.out HBl.out.size)).trans (HBl.out.block b HBlt.out); have d0 : w3.cell? ⟨b, off + 3 * k, none⟩ = some (.int .i64 ki) := (hb3.cell (p := ⟨b, off + 3 * k, none⟩) (Nat.lt_of_lt_of_le HBlt.out HBl.out.size)).trans c0; have HQ3 := Lib.hid hq3; clear hc3 hb3 ho3 hq3)
            | (go_at_call 22; refine (VSave (S := S) v g mm c3 A3 x.b P V w3 (HPr.out.1.below HB3.out) (HTr.out.below HB3.out) HO3.out.bs (by omega) (by omega)).mono ?_; rintro e4 w4 hr4; obtain ⟨rfl, ho4, P4, S4, hg4, hv4, hc4, hl4⟩ := (by exact hr4.ok HPr.out.2.2.1); have HO4 := Lib.hid ho4; have HG4 := Lib.hid hg4; have HV4 := Lib.hid hv4; have HC4 := Lib.hid hc4; have HL4 := Lib.hid hl4; have d1 : w4.cell? ⟨b, off + 3 * k + 1, none⟩ = some (.slice T mm c1) := HRr.out w4 ((ho4.block b (Nat.lt_of_lt_of_le HBlt.out (Nat.le_trans HBl.out.size HB3.out.size)) HnP.out.1).trans HQ3.out) 1 _ rfl; clear hr4 ho4 hg4 hv4 hc4 hl4)
            | (go_at_call 23; refine (MSave_any m mm c1 T x.b D V w4 ((HPr.out.2.1.below HB3.out).off HO4.out (fun b q q2 => HPr.out.2.2.2 b q2 q)) ((HB.out.below HB3.out).off0 (HTf.out.imp id (fun hT b off e q => (hT b off e).1 q)) HO4.out) (by omega) (by omega) (HTf.out.imp id (fun hT b off e q => (hT b off e).2 (by rw [q]; exact HPr.out.2.1.1)))).mono ?_; rintro e5 w5 ⟨rfl, ho5, D5, hg5, hd5⟩; have HO5 := Lib.hid ho5; have HG5 := Lib.hid hg5; have HD5 := Lib.hid hd5; clear ho5 hg5 hd5))
          have hs3 := HB3.out.size
          have hs4 := HO4.out.size
          have hs5 := HO5.out.size
          have hsw := HBl.out.size
          have hap := pair_apart (w := wr) (w3 := w3) (w4 := w4) (w5 := w5) HPr.out.2.2.2 HPr.out.1.1 HPr.out.2.1.2.1 hs3 hs4 HG4.out HG5.out HV4.out.1 hs5
          have HPr5 : Hid (Pair w5 v g m P4 D5 S4 (V.save x.b)) := Lib.hid ⟨HV4.out.off HO5.out (fun b q q2 => by
            rcases HG4.out b q with q | q
            · exact HPr.out.2.2.2 b q q2
            · have := HPr.out.2.1.2.1 b q2; omega), HD5.out, HL4.out, hap⟩
          have HW3 := Lib.hid (WrB.of (X := fun b => wr.heap.size ≤ b ∧ b < w3.heap.size) HO3.out (fun b q q2 => ⟨q, q2⟩))
          have HW4 := Lib.hid (HW3.out.off (Y := fun b => wr.heap.size ≤ b ∧ b < w3.heap.size) HO4.out (fun b q q2 => by have := HPr.out.1.1 b q2; omega) (fun b q => q))
          have HW5 := Lib.hid (HW4.out.off (Y := fun b => w.heap.size ≤ b ∧ ¬ P4 b ∧ ¬ D5 b) HO5.out (fun b q q2 => by have := HPr.out.2.1.2.1 b q2; omega) (fun b q => ⟨by omega, fun q2 => by
            rcases HG4.out b q2 with q2 | q2
            · have := HPr.out.1.1 b q2; omega
            · omega, fun q2 => by
            rcases HG5.out b q2 with q2 | q2
            · have := HPr.out.2.1.2.1 b q2; omega
            · omega⟩))
          have HB5 := Lib.hid (HBl.out.trans ((HB3.out.mono hsw).trans ((HO4.out.below (B := w.heap.size) (fun x q => HPD.out x (.inl q)) (by omega)).trans (HO5.out.below (B := w.heap.size) (fun x q => HPD.out x (.inr q)) (by omega)))))
          have HPD5 := Lib.hid (show ∀ b, P4 b ∨ D5 b → w.heap.size ≤ b from fun b q => by
            rcases q with q | q
            · rcases HG4.out b q with q | q
              · exact HPD.out b (.inl q)
              · omega
            · rcases HG5.out b q with q | q
              · exact HPD.out b (.inr q)
              · omega)
          have HC5 := Lib.hid (show (S4.cont 0).length ≤ 600 * (k + 1) by rw [HC4.out, put_same]; simp)
          have hg5 : (V.save x.b).gen ≤ k + 1 := by show V.gen + 1 ≤ k + 1; omega
          clear HPr HO4 HO5 HG4 HG5 HV4 HD5 HW3 HW4 HB3 HO3 HC4 HL4 hap hs3 hs4 hs5 hsw d0 d1 HBl HPD HTf HB HCk HTr c0 c1' hcnt hgk
          go_loopw [8] (fun i wr => ∃ (t : Nat), t ≤ mm ∧ i = .int .i64 (t : Int) ∧ Hid (Below w.heap.size w wr) ∧ Hid (Pair wr v g m P4 D5 S4 (V.save x.b)) ∧ Hid (WrB wr A3 mm (fun b => w.heap.size ≤ b ∧ ¬ P4 b ∧ ¬ D5 b))) (fun i _ => mm - (intOf i).toNat)
          case atStart => exact ⟨0, Nat.zero_le _, rfl, HB5, HPr5, HW5⟩
          case round =>
            obtain ⟨t, ht, rfl, HBt, HPt, HWt⟩ := hrel
            clear HB5 HPr5 HW5
            by_cases htm : t < mm
            · obtain ⟨gi, cs, rfl, hrow, hu, hgi⟩ := HWt.out.resolve_left (by omega)
              obtain ⟨y, hy⟩ := hu.2 t htm
              have hcell := (hrow.cell t).trans hy
              have hfz := hrow.frozen t
              have HR := Lib.hid hrow
              have HGi := Lib.hid hgi
              clear hrow hu hy hgi
              go_wp2_with fail
              go_roundw
              case rel => exact ⟨t + 1, by omega, by go_num, Lib.hid (HBt.out.setCell HGi.out.1 _), Lib.hid (HPt.out.write HGi.out.2.1 HGi.out.2.2), Lib.hid (HWt.out.write HR.out)⟩
              case measure => simp [intOf]; omega
            · go_wp2_with fail
              go_roundw
              case rel => exact ⟨k + 1, P4, D5, S4, _, by omega, by go_num, HPt, HPD5, HBt, hg5, HC5⟩
              case measure => simp [intOf]; omega
        · have i1 : (ki == 1) = false := by simpa using hk1
          clear hk1
          have HFs := Lib.hid (vFr_small (a := (V.gen, x.b)) (by simp only; omega) (by simp only; rw [HML.out]; exact hmm))
          go_wp2_with (first
            | (with_reducible refine wpList_indexK (by with_unfolding_all rfl) (.tmp 30) (.tmp 31) rfl b off len0 cap0 k _ _ rfl rfl rfl hlt rfl ?_)
            | (with_reducible refine wpList_indexK (by with_unfolding_all rfl) (.tmp 36) (.tmp 37) rfl b off len0 cap0 k _ _ rfl rfl rfl hlt rfl ?_)
            | (with_reducible refine wpList_indexK (by with_unfolding_all rfl) (.tmp 56) (.tmp 57) rfl b off len0 cap0 k _ _ rfl rfl rfl hlt rfl ?_)
            | (go_at_call 20; refine HOw.out.mono ?_; rintro e3 w3 ⟨A3, c3, rfl, hc3, hb3, ho3⟩; have HB3 := Lib.hid hb3; have HO3 := Lib.hid ho3; have hq3 := (hb3.block b (Nat.lt_of_lt_of_le HBlt.out HBl.out.size)).trans (HBl.out.block b HBlt.out); have d0 : w3.cell? ⟨b, off + 3 * k, none⟩ = some (.int .i64 ki) := (hb3.cell (p := ⟨b, off + 3 * k, none⟩) (Nat.lt_of_lt_of_le HBlt.out HBl.out.size)).trans c0; have HQ3 := Lib.hid hq3; clear hc3 hb3 ho3 hq3)
            | (go_at_call 19; refine (VAdd (S := S) v g mm c3 A3 x.b P V w3 (HPr.out.1.below HB3.out) (HTr.out.below HB3.out) HO3.out.bs (by omega) (by omega)).mono ?_; rintro e4 w4 hr4; obtain ⟨rfl, ho4, P4, S4, hg4, hv4, hc4, hl4⟩ := (by exact hr4.ok HPr.out.2.2.1 (by have := HFs.out; have := HCk.out; omega)); have HO4 := Lib.hid ho4; have HG4 := Lib.hid hg4; have HV4 := Lib.hid hv4; have HC4 := Lib.hid hc4; have HL4 := Lib.hid hl4; have d1 : w4.cell? ⟨b, off + 3 * k + 1, none⟩ = some (.slice T mm c1) := HRr.out w4 ((ho4.block b (Nat.lt_of_lt_of_le HBlt.out (Nat.le_trans HBl.out.size HB3.out.size)) HnP.out.1).trans HQ3.out) 1 _ rfl; clear hr4 ho4 hg4 hv4 hc4 hl4)
            | (go_at_call 21; refine (MAdd_any m mm c1 T x.b D V w4 ((HPr.out.2.1.below HB3.out).off HO4.out (fun b q q2 => HPr.out.2.2.2 b q2 q)) ((HB.out.below HB3.out).off0 (HTf.out.imp id (fun hT b off e q => (hT b off e).1 q)) HO4.out) (by omega) hcnt).mono ?_; rintro e5 w5 ⟨rfl, ho5, D5, hg5, hd5⟩; have HO5 := Lib.hid ho5; have HG5 := Lib.hid hg5; have HD5 := Lib.hid hd5; clear ho5 hg5 hd5))
          have hs3 := HB3.out.size
          have hs4 := HO4.out.size
          have hs5 := HO5.out.size
          have hsw := HBl.out.size
          have hap := pair_apart (w := wr) (w3 := w3) (w4 := w4) (w5 := w5) HPr.out.2.2.2 HPr.out.1.1 HPr.out.2.1.2.1 hs3 hs4 HG4.out HG5.out HV4.out.1 hs5
          have HPr5 : Hid (Pair w5 v g m P4 D5 S4 (V.add x.b)) := Lib.hid ⟨HV4.out.off HO5.out (fun b q q2 => by
            rcases HG4.out b q with q | q
            · exact HPr.out.2.2.2 b q q2
            · have := HPr.out.2.1.2.1 b q2; omega), HD5.out, HL4.out, hap⟩
          have HW3 := Lib.hid (WrB.of (X := fun b => wr.heap.size ≤ b ∧ b < w3.heap.size) HO3.out (fun b q q2 => ⟨q, q2⟩))
          have HW4 := Lib.hid (HW3.out.off (Y := fun b => wr.heap.size ≤ b ∧ b < w3.heap.size) HO4.out (fun b q q2 => by have := HPr.out.1.1 b q2; omega) (fun b q => q))
          have HW5 := Lib.hid (HW4.out.off (Y := fun b => w.heap.size ≤ b ∧ ¬ P4 b ∧ ¬ D5 b) HO5.out (fun b q q2 => by have := HPr.out.2.1.2.1 b q2; omega) (fun b q => ⟨by omega, fun q2 => by
            rcases HG4.out b q2 with q2 | q2
            · have := HPr.out.1.1 b q2; omega
            · omega, fun q2 => by
            rcases HG5.out b q2 with q2 | q2
            · have := HPr.out.2.1.2.1 b q2; omega
            · omega⟩))
          have HB5 := Lib.hid (HBl.out.trans ((HB3.out.mono hsw).trans ((HO4.out.below (B := w.heap.size) (fun x q => HPD.out x (.inl q)) (by omega)).trans (HO5.out.below (B := w.heap.size) (fun x q => HPD.out x (.inr q)) (by omega)))))
          have HPD5 := Lib.hid (show ∀ b, P4 b ∨ D5 b → w.heap.size ≤ b from fun b q => by
            rcases q with q | q
            · rcases HG4.out b q with q | q
              · exact HPD.out b (.inl q)
              · omega
            · rcases HG5.out b q with q | q
              · exact HPD.out b (.inr q)
              · omega)
          have HC5 := Lib.hid (show (S4.cont 0).length ≤ 600 * (k + 1) by rw [HC4.out, put_same, List.length_append]; have := HFs.out; have := HCk.out; omega)
          have hg5 : (V.add x.b).gen ≤ k + 1 := by show V.gen ≤ k + 1; omega
          clear HPr HO4 HO5 HG4 HG5 HV4 HD5 HW3 HW4 HB3 HO3 HC4 HL4 hap hs3 hs4 hs5 hsw d0 d1 HBl HPD HTf HB HCk HTr c0 c1' hcnt hgk
          go_loopw [8] (fun i wr => ∃ (t : Nat), t ≤ mm ∧ i = .int .i64 (t : Int) ∧ Hid (Below w.heap.size w wr) ∧ Hid (Pair wr v g m P4 D5 S4 (V.add x.b)) ∧ Hid (WrB wr A3 mm (fun b => w.heap.size ≤ b ∧ ¬ P4 b ∧ ¬ D5 b))) (fun i _ => mm - (intOf i).toNat)
          case atStart => exact ⟨0, Nat.zero_le _, rfl, HB5, HPr5, HW5⟩
          case round =>
            obtain ⟨t, ht, rfl, HBt, HPt, HWt⟩ := hrel
            clear HB5 HPr5 HW5
            by_cases htm : t < mm
            · obtain ⟨gi, cs, rfl, hrow, hu, hgi⟩ := HWt.out.resolve_left (by omega)
              obtain ⟨y, hy⟩ := hu.2 t htm
              have hcell := (hrow.cell t).trans hy
              have hfz := hrow.frozen t
              have HR := Lib.hid hrow
              have HGi := Lib.hid hgi
              clear hrow hu hy hgi
              go_wp2_with fail
              go_roundw
              case rel => exact ⟨t + 1, by omega, by go_num, Lib.hid (HBt.out.setCell HGi.out.1 _), Lib.hid (HPt.out.write HGi.out.2.1 HGi.out.2.2), Lib.hid (HWt.out.write HR.out)⟩
              case measure => simp [intOf]; omega
            · go_wp2_with fail
              go_roundw
              case rel => exact ⟨k + 1, P4, D5, S4, _, by omega, by go_num, HPt, HPD5, HBt, hg5, HC5⟩
              case measure => simp [intOf]; omega
      · obtain rfl : k = len0 := by omega
        have HRl := Lib.hid HPr.out.1.small.2.2.2
        have HSm := Lib.hid HPr.out.1.small.1
        obtain ⟨nl, hnl⟩ : ∃ nl, V.recs.length = nl := ⟨_, rfl⟩
        obtain ⟨nt, hnt⟩ : ∃ nt, V.text.length = nt := ⟨_, rfl⟩
        have hnl1 : nl ≤ 1048576 := by rw [← hnl]; exact HRl.out
        have hnt1 : nt ≤ 1000000 := by rw [← hnt]; exact HSm.out.1
        have HRc := Lib.hid (fun w h => VRecordsN (S := S) v g nl P V V.recs w h rfl hnl)
        have HTx := Lib.hid (fun w h => VTextN (S := S) v g nt P V V.text w h rfl hnt)
        clear hnl hnt
        go_wp2_with (first
          | (go_at_call 25; refine (HRc.out wr HPr.out.1).mono ?_; rintro e3 w3 ⟨A3, c3, rfl, hc3, ho3, hb3⟩; have HF3 := Lib.hid (ownL_fst ho3 HSm.out.2.2); have HB3 := Lib.hid hb3; have HPr3 := Lib.hid (HPr.out.below hb3); clear hc3 ho3 hb3)
          | (go_at_call 27; refine (HTx.out w3 HPr3.out.1).mono ?_; rintro e4 w4 ⟨A4, c4, rfl, hc4, hb4, ho4⟩; have HW4 := Lib.hid (WrB.of (X := fun b => wr.heap.size ≤ b) ho4 (fun b q _ => Nat.le_trans HB3.out.size q)); have HF4 := Lib.hid (HF3.out.below hb4); have HPr4 := Lib.hid (HPr3.out.below hb4); have HB4 := Lib.hid (HBl.out.trans ((HB3.out.trans (hb4.mono HB3.out.size)).mono HBl.out.size)); clear hc4 ho4 hb4))
        obtain ⟨bs, hbs⟩ : ∃ bs, wr.heap.size = bs := ⟨_, rfl⟩
        have hbsw : w.heap.size ≤ bs := by rw [← hbs]; exact HBl.out.size
        have HPlt := Lib.hid (show ∀ b, bs ≤ b → ¬ P b ∧ ¬ D b from fun b q => ⟨fun q2 => by have := HPr.out.1.1 b q2; omega, fun q2 => by have := HPr.out.2.1.2.1 b q2; omega⟩)
        rw [hbs] at HF4 HW4
        clear hbs HPr HF3 HB3 HPr3 HBl HCk HRc HTx
        go_loopw [11] (fun i wr => ∃ (j : Nat), j ≤ nl ∧ i = .int .i64 (j : Int) ∧ Hid (Below w.heap.size w wr) ∧ Hid (Pair wr v g m P D S V) ∧ Hid (WrB wr A4 nt (fun b => bs ≤ b)) ∧ Hid (Fst wr bs A3 nl)) (fun i _ => nl - (intOf i).toNat)
        case atStart => exact ⟨0, Nat.zero_le _, rfl, HB4, HPr4, HW4, HF4⟩
        case round =>
          obtain ⟨j, hj, rfl, HBj, HPj, HWj, HFj⟩ := hrel
          clear HB4 HPr4 HW4 HF4
          by_cases hjl : j < nl
          · obtain ⟨gf, A', m', c', cur, rfl, hge, hgf, hc, hm, ht⟩ := HFj.out j hjl
            clear hgf ht
            go_wp2_with fail
            go_loopw [12] (fun i wr => ∃ (t : Nat), t ≤ m' ∧ i = .int .i64 (t : Int) ∧ Hid (Below w.heap.size w wr) ∧ Hid (Pair wr v g m P D S V) ∧ Hid (WrB wr A4 nt (fun b => bs ≤ b)) ∧ Hid (Fst wr bs (some ⟨gf, 0, none⟩) nl) ∧ wr.cell? ⟨gf, j, none⟩ = some (.slice A' m' c')) (fun i _ => m' - (intOf i).toNat)
            case atStart => exact ⟨0, Nat.zero_le _, rfl, HBj, HPj, HWj, HFj, hc⟩
            case round =>
              obtain ⟨t, ht, rfl, HBt, HPt, HWt, HFt, hc3⟩ := hrel
              clear HBj HPj HWj HFj hc
              by_cases htm : t < m'
              · obtain ⟨gf', A'', m2, c'', cur', e1, hge', hgf', hc2, hm2, ht'⟩ := HFt.out j hjl
                injection e1 with e1
                injection e1 with e1 _
                subst e1
                rw [hc3] at hc2
                injection hc2 with e2
                injection e2 with e2 e3 e4
                subst e2 e3
                obtain ⟨gi, cs, rfl, hgi, hrow, hu⟩ := ht'.resolve_left (by omega)
                obtain ⟨y, hy⟩ := hu.2 t htm
                have hcell := (hrow.cell t).trans hy
                have hfz := hrow.frozen t
                have hgfi : gf ≠ gi := by
                  rintro rfl
                  unfold Row at hrow
                  rw [hrow] at hgf'
                  injection hgf' with q
                  injection q with _ q
                  cases q
                have HR := Lib.hid hrow
                have HGi := Lib.hid hgi
                clear hrow hu hy hgf' hgi
                go_wp2_with fail
                go_roundw
                case rel => exact ⟨t + 1, by omega, by go_num, Lib.hid (HBt.out.setCell (Nat.le_trans hbsw HGi.out) _), Lib.hid (HPt.out.write (HPlt.out gi HGi.out).1 (HPlt.out gi HGi.out).2), Lib.hid (HWt.out.write HR.out), Lib.hid (HFt.out.write HR.out), (World.cell?_of_block (w := wr) (a := ⟨gf, j, none⟩) (Below.heap_setCell _ _ _ _ hgfi)).trans hc3⟩
                case measure => simp [intOf]; omega
              · go_wp2_with fail
                go_roundw
                case rel => exact ⟨j + 1, by omega, by go_num, HBt, HPt, HWt, HFt⟩
                case measure => simp [intOf]; omega
          · go_wp2_with fail
            go_loopw [13] (fun i wr => ∃ (t : Nat), t ≤ nt ∧ i = .int .i64 (t : Int) ∧ Hid (Below w.heap.size w wr) ∧ Hid (Pair wr v g m P D S V) ∧ Hid (WrB wr A4 nt (fun b => bs ≤ b))) (fun i _ => nt - (intOf i).toNat)
            case atStart => exact ⟨0, Nat.zero_le _, rfl, HBj, HPj, HWj⟩
            case round =>
              obtain ⟨t, ht, rfl, HBt, HPt, HWt⟩ := hrel
              clear HBj HPj HWj HFj
              by_cases htm : t < nt
              · obtain ⟨gi, cs, rfl, hrow, hu, hgi⟩ := HWt.out.resolve_left (by omega)
                obtain ⟨y, hy⟩ := hu.2 t htm
                have hcell := (hrow.cell t).trans hy
                have hfz := hrow.frozen t
                have HR := Lib.hid hrow
                have HGi := Lib.hid hgi
                clear hrow hu hy hgi
                go_wp2_with fail
                go_roundw
                case rel => exact ⟨t + 1, by omega, by go_num, Lib.hid (HBt.out.setCell (Nat.le_trans hbsw HGi.out) _), Lib.hid (HPt.out.write (HPlt.out gi HGi.out).1 (HPlt.out gi HGi.out).2), Lib.hid (HWt.out.write HR.out)⟩
                case measure => simp [intOf]; omega
              · go_wp2_with (first
                  | (go_at_call 14; refine (VSame v g m P D V wr HPt.out.1 HPt.out.2.1).mono ?_; rintro e6 w6 ⟨rfl, hb6⟩; have B6 := Lib.hid (HBt.out.trans (hb6.mono HBt.out.size)); clear hb6)
                  | (go_at_call 11; refine (awake_any w6 (HT.out.below B6.out)).mono ?_; rintro e9 w9 ⟨rfl, hb9⟩; have B9 := Lib.hid (B6.out.trans (hb9.mono B6.out.size)); clear hb9))
                go_ret
                exact ⟨rfl, B9.out⟩

set_option maxRecDepth 100000 in
theorem lifted (os : Os) (started : os.Started) (H : Type) (enc : TypeId × Value → H) :
    ReturnsInHanded {} Tryd.checked os 8 .any (fun w args => (Rows.vaultOwnSpec.pre enc Tryd.prog Tryd.f8 Rows.vaultOwnRow.domain false w args ∧ laidMetH Tryd.prog lay1 w) ∧ sizedMet enc Tryd.prog Tryd.f8 (OpenSpec.ofChange Rows.vaultOwnSpec) false w args)
      (Rows.vaultOwnSpec.post enc Tryd.prog Tryd.f8 false true false false) := by
  refine returnsInHanded_of_change_and (C := Tryd.checked) (X := fun w _ => laidMetH Tryd.prog lay1 w) (fun _ _ _ hh h => h.of_heap hh) own started (by kernel_rfl) Tryd.func8
    (ChangeSpec.witness_shaped (enc := enc) (C := Tryd.checked) (os := os) (X := fun w _ => laidMetH Tryd.prog lay1 w) false (World.laidAll Tryd.prog os lay1) #[.slice none 0 0] 8 rfl (World.shaped_of_ZipB (by kernel_rfl) (by kernel_rfl)) (by kernel_rfl) (by kernel_rfl) (by kernel_rfl) (met1 os _)) ?_
  intro W base args ds gs before hval0 hW hcnd hsz0 hL _
  have hval : ∀ (j : Nat) t v, Tryd.f8.params[j]? = some t → args[j]? = some v → Value.okWide Tryd.prog W .any base t v := hval0
  have hW' := hW
  obtain ⟨p, q, hA0, hV, rfl, hfz, hnd⟩ := hW
  have hA : DataW.TrodAll enc Tryd.prog W 0 (fun _ => true) true Tryd.f8.params.toList args.toList ds p := hA0
  have hsz : (DataW.weightsEach Tryd.prog (Tryd.f8.params.toList ++ Rows.vaultOwnSpec.plain.varTypes Tryd.prog) (ds ++ gs)).all (· ≤ reachBytes) = true := hsz0
  rw [Tryd.params8] at hA hval hsz
  obtain ⟨v0, vs0, d0, ds0, p0, q0, hargs, rfl, rfl, h0, r0⟩ := trodAll_cons hA
  obtain ⟨rfl, rfl, rfl⟩ := trodAll_nil r0
  obtain rfl : args = #[v0] := by cases args; simp_all
  obtain ⟨rfl, rfl⟩ := trodVars_none hV
  have k0 := h0
  have lt0 : ∀ x ∈ p0, x.block < W.heap.size := by obtain ⟨m, hm⟩ := k0; exact DataW.trod_lt m _ _ _ hm
  obtain ⟨a0, len0, cap0, L0, rfl, w0⟩ := open_cls (hval 0 22 v0 rfl rfl) h0
  have hTab := of_lay1 hL
  clear hA0 hval0
  refine (walk W a0 len0 cap0 L0 w0 hTab).mono fun e W' ⟨he, bel⟩ => ?_
  subst he
  exact ⟨_, rfl, _, _, _, [], _, [], hW', trodAll_mk1 (shut_bool Tryd.underlying4 _), (trodAll_cons_mk (Below.trod laidOut (by kernel_rfl) (of_decide_eq_true (by kernel_rfl)) k0 bel lt0) trodAll_mk0), rfl, bel.frame _, fun h => by cases h⟩
theorem over : Rows.vaultOwnRow.holds Tryd.pinned (OpenSpec.ofChange Rows.vaultOwnSpec) :=
  OpenClaim.holds_of_wide 8 Tryd.f8 rfl rfl rfl rfl rfl rfl rfl ⟨rfl, rfl, rfl, rfl, rfl⟩ rfl rfl rfl rfl rfl (by kernel_rfl) Tryd.func8 (by kernel_rfl)
    (of_decide_eq_true (by kernel_rfl)) (by unfold Func.isWrapper; first | (rw [if_pos (by decide +kernel)]; kernel_rfl) | (rw [if_neg (by decide +kernel)]; exact ⟨rfl, rfl⟩))
    (fun os started H enc _ => lifted os started H enc)
theorem vaultOwn_holds : Rows.VaultOwnCardSaid :=
  Claim7.holds_tied_plain_at .later [] [.data] true (true, "3918f1ddf02261ad0a93f38998c4f98da4da0b9053f84aceed042060bea0f41d") false
    over (fun _ h => by cases h) (by kernel_rfl) (fun _ h => by cases h) vaultOwn_row_tie rfl ⟨rfl, rfl⟩ (by kernel_rfl) rfl
    (fun f fn hf hfn => by
      obtain rfl : f = 8 := Option.some.inj ((show Tryd.prog.funcNamed "jurat/juratlaw12.VaultOwn" = some 8 by kernel_rfl).symm.trans hf) |>.symm
      obtain rfl : fn = Tryd.f8 := (Option.some.inj (Tryd.func8.symm.trans hfn)).symm
      exact ⟨by kernel_rfl, fun j t ht => by
        rw [Tryd.params8] at ht
        have hm : t ∈ [22] := by simpa using Array.mem_of_getElem? ht
        have hall : ([22].all fun u => !Tryd.prog.wantsStandIn u) = true := by kernel_rfl
        exact (show Tryd.prog.wantsStandIn t = false by simpa using List.all_eq_true.1 hall t hm)⟩)
    (by kernel_rfl)
#print axioms vaultOwn_holds
end Go.Proofs.YtgiobcpljbpmiaaDoor.vaultOwn
