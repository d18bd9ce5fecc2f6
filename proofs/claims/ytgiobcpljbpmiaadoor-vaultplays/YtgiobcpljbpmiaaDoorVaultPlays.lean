/-
  VaultPlays, whole, as the tied card (Rows.VaultPlaysCardSaid): for every list of calls (up to 40 are played, 500 bytes each) a vault has what the document's has behind each Add, each Save and each crash of its tape (whatever was kept) with an Open behind it; and the document's example. Conditions: the table sha.constants reads as its initialiser lays it (tied to the program's text).
-/
import Derived.Test.YtgiobcpljbpmiaaDoorRows
import Derived.Test.YtgiobcpljbpmiaaDoorCards
import Derived.Test.YtgiobcpljbpmiaaDoorTie
import Derived.WalkKit
import Derived.ProofKit
import Derived.OpenShut
import Derived.ChangeMaps5
import Derived.ShutString
import Derived.ChangeOld
import Derived.Below
import Derived.SizedLaws
import Derived.SevenTiedAt
import Derived.Lay
import Derived.LaidLaws
import Derived.Test.YtgiobcpljbpmiaaDoorVltS
namespace Go.Proofs.YtgiobcpljbpmiaaDoor.vaultPlays
open Go.ChangeShapes Go.WideShapes Go.ChangeAt Go.RowKit
open Go.ChangeMaps (open_string shut_string)
set_option linter.unusedVariables false
theorem own : ownKnob Tryd.prog.godebug = none := by kernel_rfl
theorem laidOut : laidOutB Tryd.prog = true := by kernel_rfl
set_option maxRecDepth 100000 in
set_option maxHeartbeats 8000000 in
theorem walk (w : World) (a0 : Option Addr) (len0 cap0 : Nat) (L0 : List Cl) (w0 : Cls w a0 len0 L0) (hT : Tab 2 w) :
    Calls Tryd.prog 3 #[.slice a0 len0 cap0] w fun e w' => e = .returned (.bool true) ∧ Below w.heap.size w w' := by
  have HT := Lib.hid hT
  have HC := Lib.hid w0
  have HLo := Lib.hid (Long_any a0 len0 cap0 L0 w w0)
  obtain ⟨q, hq⟩ : ∃ q, longC L0 = q := ⟨_, rfl⟩
  rw [hq] at HLo
  cases q with
  | true =>
    clear hT w0 hq
    go_enter Tryd.func3, Tryd.ntmps3
    go_wp2_with (first
      | (go_at_call 10; refine HLo.out.mono ?_; rintro e1 w1 ⟨rfl, rfl⟩)
      | (go_at_call 11; refine (awake_any w HT.out).mono ?_; rintro e9 w9 ⟨rfl, hb9⟩; have B9 := hb9; clear hb9))
    go_ret
    exact ⟨rfl, B9⟩
  | false =>
    obtain ⟨hn40, hall⟩ := longC_no hq
    rw [w0.1] at hn40
    have HAll := Lib.hid hall
    clear hT w0 hq hall
    go_enter Tryd.func3, Tryd.ntmps3
    go_wp2_with (first
      | (go_at_call 10; refine HLo.out.mono ?_; rintro e1 w1 ⟨rfl, rfl⟩)
      | (go_at_call 12; refine (VNew w HT.out).mono ?_; rintro e1 w1 ⟨g, P0, rfl, hP0, ht1, hb1⟩; have HT1 := Lib.hid ht1; have HP0 := Lib.hid hP0; have B1 := hb1; have T1 := Lib.hid (HT.out.below hb1); clear ht1 hP0 hb1)
      | (go_at_call 13; refine (VFirst w1 g P0 HT1.out T1.out).mono ?_; rintro e2 w2 ⟨v, rfl, ho2, P2, S2, hg2, hv2, hc2, hl2⟩; have V2 := Lib.hid hv2; have HP2 := Lib.hid (hg2.base HP0.out B1.size); have B2 : Below w.heap.size w w2 := B1.trans (ho2.below HP0.out B1.size); have HC2 := Lib.hid hc2; have HL2 := Lib.hid hl2; have hX2 := (Below.refl w2.heap.size w2).alloc (Nat.le_refl _) (.cells #[.int .i64 0, .slice none 0 0, .slice none 0 0] 35); have HX2 := Lib.hid hX2; have HR2 := Lib.hid (Row.new w2 35 #[.int .i64 0, .slice none 0 0, .slice none 0 0]); have hPr : Pair (w2.alloc (.cells #[.int .i64 0, .slice none 0 0, .slice none 0 0] 35)) v g w2.heap.size P2 (fun b => b = w2.heap.size) S2 Vs.new := ⟨hv2.below hX2, ⟨rfl, fun b q => by subst q; exact HR2.out.lt, none, 0, 0, .slice none 0 0, HR2.out, Own.nil _ _ _, fun b q => by simp [Value.ownBlock] at q, Texts.nil _ _⟩, hl2, fun b q q2 => by subst q2; have := hv2.1 _ q; omega⟩; have HPr := Lib.hid hPr; clear hg2 hv2 hc2 hl2 ho2 hX2 hPr)
      | (go_at_call 14; refine (VSame v g w2.heap.size P2 _ Vs.new _ HPr.out.1 HPr.out.2.1).mono ?_; rintro e3 w3 ⟨rfl, hb3⟩; have HB3 := Lib.hid hb3; clear hb3))
    have hs2 := B2.size
    have BX : Below w.heap.size w w3 := (B2.trans (HX2.out.mono hs2)).trans (HB3.out.mono (by simp; omega))
    have HPr3 := Lib.hid (HPr.out.below HB3.out)
    obtain ⟨m, hm⟩ : ∃ m, w2.heap.size = m := ⟨_, rfl⟩
    rw [hm] at HPr3
    have HPD3 := Lib.hid (show ∀ b, P2 b ∨ b = m → w.heap.size ≤ b from fun b q => by
      rcases q with q | q
      · exact HP2.out b q
      · omega)
    have HCC := Lib.hid (show (S2.cont 0).length ≤ 0 by rw [HC2.out 0]; simp)
    rw [hm]
    clear hs2 hm HPr HR2 HX2 HB3 V2 HC2 HL2 HP2 B2 HT1 HP0 B1 T1
    go_loopw [3, 4, 5, 7] (fun t vv e i wr => ∃ (k g v : Nat) (P D : Nat → Prop) (S : Tp) (V : Vs), k ≤ len0 ∧ t = .pointer (some ⟨g, 0, none⟩) ∧ vv = .pointer (some ⟨v, 0, none⟩) ∧ e = .int .i64 0 ∧ i = .int .i64 (k : Int) ∧ Hid (Pair wr v g m P D S V) ∧ Hid (∀ b, P b ∨ D b → w.heap.size ≤ b) ∧ Hid (Below w.heap.size w wr) ∧ V.gen ≤ k ∧ Hid ((S.cont 0).length ≤ 600 * k)) (fun _ _ _ i _ => len0 - (intOf i).toNat)
    case atStart => exact ⟨0, g, v, P2, (fun b => b = m), S2, Vs.new, Nat.zero_le _, rfl, rfl, rfl, rfl, HPr3, HPD3, Lib.hid BX, Nat.le_refl _, HCC⟩
    case round =>
      obtain ⟨k, g, v, P, D, S, V, hk, rfl, rfl, rfl, rfl, HPr, HPD, HBl, hgk, HCk⟩ := hrel
      clear HPr3 HPD3 HCC BX
      by_cases hlt : k < len0
      · obtain ⟨x, b, off, T, mm, c1, I, p, d, hx, rfl, hb, hr, hBx, _, hI⟩ := HC.out.get hlt
        have HX := Lib.hid hx
        obtain ⟨hx5, hx10⟩ := HAll.out x (List.mem_of_getElem? hx)
        have hTr := HT.out.below HBl.out
        have HTr := Lib.hid hTr
        have hrr : wr.rangeAt b (off + 3 * k) (clC x.kind T mm c1 I p d).toList := fun j v hv => (HBl.out.cell (p := ⟨b, off + 3 * k + j, none⟩) hb).trans (hr j v hv)
        have HRr := Lib.hid hrr
        have c0 : wr.cell? ⟨b, off + 3 * k, none⟩ = some (.int .i64 x.kind) := hrr 0 _ rfl
        have c2 : wr.cell? ⟨b, off + 3 * k + 2, none⟩ = some (.slice I p d) := hrr 2 _ rfl
        have HB := Lib.hid (hBx.below HBl.out)
        have HI := Lib.hid (hI.below HBl.out)
        have HTf := Lib.hid (show ∀ b off, T = some ⟨b, off, none⟩ → mm ≠ 0 → ¬ P b ∧ ¬ D b from fun b' off' e hm0 => by
          obtain ⟨b2, o2, x2, e2, hlt2, _⟩ := hBx.get (k := 0) (by omega)
          rw [e] at e2
          injection e2 with e2
          injection e2 with e2
          subst e2
          exact ⟨fun q => by have := HPD.out _ (.inl q); omega, fun q => by have := HPD.out _ (.inr q); omega⟩)
        have hmm : mm ≤ 500 := by rw [← hBx.1]; exact hx5
        have hpp : p ≤ 10 := by rw [← hI.1]; exact hx10
        obtain ⟨ki, hki⟩ : ∃ ki, x.kind = ki := ⟨_, rfl⟩
        rw [hki] at c0 HRr
        clear hr hBx hI hx hTr hrr hx5 hx10 hki
        by_cases hk0 : ki = 0
        · skip
          have i0 : (ki != 0) = false := by rw [hk0]; rfl
          have HDo := Lib.hid (fun (hT0 : mm = 0 ∨ ∀ b off, T = some ⟨b, off, none⟩ → ¬ P b ∧ ¬ D b) => does_add (S := S) v g m P D V ki T I mm c1 p d x.b wr HPr.out HTr.out HB.out hT0 hmm (by omega) hk0 (by have := HCk.out; omega))
          have HTn := Lib.hid (show mm = 0 ∨ ∀ b off, T = some ⟨b, off, none⟩ → ¬ P b ∧ ¬ D b from (Nat.eq_zero_or_pos mm).imp id (fun h0 b off e => HTf.out b off e (by omega)))
          clear hk0
          go_wp2_with (first
            | (with_reducible refine wpList_indexK (by with_unfolding_all rfl) (.tmp 33) (.tmp 34) rfl b off len0 cap0 k _ _ rfl rfl rfl hlt rfl ?_)
            | (with_reducible refine wpList_indexK (by with_unfolding_all rfl) (.tmp 65) (.tmp 66) rfl b off len0 cap0 k _ _ rfl rfl rfl hlt rfl ?_)
            | (with_reducible refine wpList_loadK rfl (.tmp 67) rfl b (off + 3 * k) ki T mm c1 I p d rfl HRr.out ?_)
            | (go_at_call 16; refine (HDo.out HTn.out).mono ?_; rintro e3 w3 ⟨rfl, ho3, P3, D3, S3, hgP, hgD, hpr3, hc3⟩; have HO3 := Lib.hid ho3; have HGP := Lib.hid hgP; have HGD := Lib.hid hgD; have HPr3 := Lib.hid hpr3; have HC3 := Lib.hid hc3; clear ho3 hgP hgD hpr3 hc3)
            | (go_at_call 14; refine (VSame v g m P3 D3 _ w3 HPr3.out.1 HPr3.out.2.1).mono ?_; rintro e6 w6 ⟨rfl, hb6⟩; have HB6 := Lib.hid hb6; clear hb6))
          go_roundw
          case rel =>
            have hs3 := HO3.out.size
            have hsw := HBl.out.size
            refine ⟨k + 1, g, v, P3, D3, S3, V.add x.b, by omega, rfl, rfl, rfl, by go_num, Lib.hid (HPr3.out.below HB6.out), Lib.hid (fun b q => ?_), Lib.hid ?_, by show V.gen ≤ k + 1; omega, Lib.hid ?_⟩
            · rcases q with q | q
              · rcases HGP.out b q with q | q
                · exact HPD.out b (.inl q)
                · omega
              · rcases HGD.out b q with q | q
                · exact HPD.out b (.inr q)
                · omega
            · exact HBl.out.trans (((HO3.out.below (B := w.heap.size) (fun x q => HPD.out x q) hsw).trans (HB6.out.mono (by omega))))
            · have := HC3.out; have := HCk.out; omega
          case measure => simp [intOf]; omega
        · have i0 : (ki != 0) = true := by simpa using hk0
          by_cases hk1 : ki = 1
          · skip
            have i1 : (ki != 1) = false := by rw [hk1]; rfl
            have HDo := Lib.hid (fun (hT0 : mm = 0 ∨ ∀ b off, T = some ⟨b, off, none⟩ → ¬ P b ∧ ¬ D b) => does_save (S := S) v g m P D V ki T I mm c1 p d x.b wr HPr.out HTr.out HB.out hT0 hmm (by omega) hk1)
            have HTn := Lib.hid (show mm = 0 ∨ ∀ b off, T = some ⟨b, off, none⟩ → ¬ P b ∧ ¬ D b from (Nat.eq_zero_or_pos mm).imp id (fun h0 b off e => HTf.out b off e (by omega)))
            clear hk0 hk1
            go_wp2_with (first
              | (with_reducible refine wpList_indexK (by with_unfolding_all rfl) (.tmp 33) (.tmp 34) rfl b off len0 cap0 k _ _ rfl rfl rfl hlt rfl ?_)
              | (with_reducible refine wpList_indexK (by with_unfolding_all rfl) (.tmp 40) (.tmp 41) rfl b off len0 cap0 k _ _ rfl rfl rfl hlt rfl ?_)
              | (with_reducible refine wpList_indexK (by with_unfolding_all rfl) (.tmp 65) (.tmp 66) rfl b off len0 cap0 k _ _ rfl rfl rfl hlt rfl ?_)
              | (with_reducible refine wpList_loadK rfl (.tmp 67) rfl b (off + 3 * k) ki T mm c1 I p d rfl HRr.out ?_)
              | (go_at_call 16; refine (HDo.out HTn.out).mono ?_; rintro e3 w3 ⟨rfl, ho3, P3, D3, S3, hgP, hgD, hpr3, hc3⟩; have HO3 := Lib.hid ho3; have HGP := Lib.hid hgP; have HGD := Lib.hid hgD; have HPr3 := Lib.hid hpr3; have HC3 := Lib.hid hc3; clear ho3 hgP hgD hpr3 hc3)
              | (go_at_call 14; refine (VSame v g m P3 D3 _ w3 HPr3.out.1 HPr3.out.2.1).mono ?_; rintro e6 w6 ⟨rfl, hb6⟩; have HB6 := Lib.hid hb6; clear hb6))
            go_roundw
            case rel =>
              have hs3 := HO3.out.size
              have hsw := HBl.out.size
              refine ⟨k + 1, g, v, P3, D3, S3, V.save x.b, by omega, rfl, rfl, rfl, by go_num, Lib.hid (HPr3.out.below HB6.out), Lib.hid (fun b q => ?_), Lib.hid ?_, by show V.gen + 1 ≤ k + 1; omega, Lib.hid ?_⟩
              · rcases q with q | q
                · rcases HGP.out b q with q | q
                  · exact HPD.out b (.inl q)
                  · omega
                · rcases HGD.out b q with q | q
                  · exact HPD.out b (.inr q)
                  · omega
              · exact HBl.out.trans (((HO3.out.below (B := w.heap.size) (fun x q => HPD.out x q) hsw).trans (HB6.out.mono (by omega))))
              · have := HC3.out; have := HCk.out; omega
            case measure => simp [intOf]; omega
          · have i1 : (ki != 1) = true := by simpa using hk1
            clear hk0 hk1 HRr
            have c2b : (wr.alloc (.cells #[] 3)).cell? ⟨b, off + 3 * k + 2, none⟩ = some (.slice I p d) := (((Below.refl wr.heap.size wr).alloc (Nat.le_refl _) (.cells #[] 3)).cell (p := ⟨b, off + 3 * k + 2, none⟩) (Nat.lt_of_lt_of_le hb HBl.out.size)).trans c2
            clear c2
            go_wp2_with (first
              | (with_reducible refine wpList_indexK (by with_unfolding_all rfl) (.tmp 33) (.tmp 34) rfl b off len0 cap0 k _ _ rfl rfl rfl hlt rfl ?_)
              | (with_reducible refine wpList_indexK (by with_unfolding_all rfl) (.tmp 40) (.tmp 41) rfl b off len0 cap0 k _ _ rfl rfl rfl hlt rfl ?_)
              | (with_reducible refine wpList_indexK (by with_unfolding_all rfl) (.tmp 49) (.tmp 50) rfl b off len0 cap0 k _ _ rfl rfl rfl hlt rfl ?_)
              | ((with_reducible refine wpList_copyI rfl (.tmp 48) (.tmp 53) rfl rfl I p d x.kept rfl HI.out (by omega) ?_); intro A3 c3 w3 hI3 hb3; have HI3 := Lib.hid hI3; have B3 := Lib.hid hb3; have T3 := Lib.hid (HTr.out.below hb3); clear hI3 hb3)
              | (go_at_call 15; refine (VCrash (S := S) g p c3 0 A3 x.kept P w3 (HPr.out.1.below B3.out).tape HPr.out.1.2.2.1 (by omega) HI3.out T3.out).mono ?_; rintro e4 w4 ⟨g4, P4, rfl, hP4, ht4, hb4⟩; have HP4 := Lib.hid hP4; have HT4 := Lib.hid ht4; have B4 := Lib.hid (B3.out.trans (hb4.mono B3.out.size)); have T4 := Lib.hid (T3.out.below hb4); clear hP4 ht4 hb4)
              | (go_at_call 13; refine (VOpen (S := S.crash x.kept) g4 (S.cont 0).length P4 V w4 HT4.out (crash_ok x.kept 0 HPr.out.1.2.2.1) rfl T4.out (by rw [crash_cont HPr.out.1.2.2.1]; exact HPr.out.1.2.2.2.2.1)).mono ?_; rintro e5 w5 hr5; obtain ⟨v5, rfl, ho5, P5, S5, hg5, hv5, hc5, hl5⟩ := (by exact hr5.ok (crash_live S x.kept)); have HO5 := Lib.hid ho5; have HG5 := Lib.hid hg5; have HV5 := Lib.hid hv5; have HC5 := Lib.hid hc5; have HL5 := Lib.hid hl5; clear hr5 hg5 hv5 hc5 hl5 ho5)
              | (go_at_call 14; refine (VSame v5 g4 m P5 D V w5 HV5.out ((HPr.out.2.1.below B4.out).off HO5.out (fun b q q2 => (by have q3 := HPr.out.2.1.2.1 b q; have q4 := HP4.out b q2; have q5 := B3.out.size; omega)))).mono ?_; rintro e6 w6 ⟨rfl, hb6⟩; have HB6 := Lib.hid hb6; clear hb6))
            go_roundw
            case rel =>
              have hs3 := B3.out.size
              have hs4 := B4.out.size
              have hs5 := HO5.out.size
              have hsw := HBl.out.size
              have hDM := (HPr.out.2.1.below B4.out).off HO5.out (fun b q q2 => (by have q3 := HPr.out.2.1.2.1 b q; have q4 := HP4.out b q2; omega))
              have hP5 : ∀ b, P5 b → wr.heap.size ≤ b := fun b q => by
                rcases HG5.out b q with q | q
                · have := HP4.out b q; omega
                · omega
              refine ⟨k + 1, g4, v5, P5, D, S5, V, by omega, rfl, rfl, rfl, by go_num, Lib.hid (Pair.below ⟨HV5.out, hDM, HL5.out, fun b q q2 => ?_⟩ HB6.out), Lib.hid (fun b q => ?_), Lib.hid ?_, by omega, Lib.hid ?_⟩
              · have := hP5 b q; have := HPr.out.2.1.2.1 b q2; omega
              · rcases q with q | q
                · have := hP5 b q; omega
                · exact HPD.out b (.inr q)
              · exact HBl.out.trans ((B4.out.trans ((HO5.out.below (B := wr.heap.size) (fun x q => by have := HP4.out x q; omega) hs4).trans (HB6.out.mono (by omega)))).mono hsw)
              · rw [HC5.out, put_same, crash_cont HPr.out.1.2.2.1, List.length_take]
                have := HCk.out
                omega
            case measure => simp [intOf]; omega
      · obtain rfl : k = len0 := by omega
        go_wp2_with (go_at_call 11; refine (awake_any wr (HT.out.below HBl.out)).mono ?_; rintro e9 w9 ⟨rfl, hb9⟩; have HB9 := Lib.hid hb9; clear hb9)
        go_ret
        exact ⟨rfl, HBl.out.trans (HB9.out.mono HBl.out.size)⟩

set_option maxRecDepth 100000 in
theorem lifted (os : Os) (started : os.Started) (H : Type) (enc : TypeId × Value → H) :
    ReturnsInHanded {} Tryd.checked os 3 .any (fun w args => (Rows.vaultPlaysSpec.pre enc Tryd.prog Tryd.f3 Rows.vaultPlaysRow.domain false w args ∧ laidMetH Tryd.prog lay1 w) ∧ sizedMet enc Tryd.prog Tryd.f3 (OpenSpec.ofChange Rows.vaultPlaysSpec) false w args)
      (Rows.vaultPlaysSpec.post enc Tryd.prog Tryd.f3 false true false false) := by
  refine returnsInHanded_of_change_and (C := Tryd.checked) (X := fun w _ => laidMetH Tryd.prog lay1 w) (fun _ _ _ hh h => h.of_heap hh) own started (by kernel_rfl) Tryd.func3
    (ChangeSpec.witness_shaped (enc := enc) (C := Tryd.checked) (os := os) (X := fun w _ => laidMetH Tryd.prog lay1 w) false (World.laidAll Tryd.prog os lay1) #[.slice none 0 0] 8 rfl (World.shaped_of_ZipB (by kernel_rfl) (by kernel_rfl)) (by kernel_rfl) (by kernel_rfl) (by kernel_rfl) (met1 os _)) ?_
  intro W base args ds gs before hval0 hW hcnd hsz0 hL _
  have hval : ∀ (j : Nat) t v, Tryd.f3.params[j]? = some t → args[j]? = some v → Value.okWide Tryd.prog W .any base t v := hval0
  have hW' := hW
  obtain ⟨p, q, hA0, hV, rfl, hfz, hnd⟩ := hW
  have hA : DataW.TrodAll enc Tryd.prog W 0 (fun _ => true) true Tryd.f3.params.toList args.toList ds p := hA0
  have hsz : (DataW.weightsEach Tryd.prog (Tryd.f3.params.toList ++ Rows.vaultPlaysSpec.plain.varTypes Tryd.prog) (ds ++ gs)).all (· ≤ reachBytes) = true := hsz0
  rw [Tryd.params3] at hA hval hsz
  obtain ⟨v0, vs0, d0, ds0, p0, q0, hargs, rfl, rfl, h0, r0⟩ := trodAll_cons hA
  obtain ⟨rfl, rfl, rfl⟩ := trodAll_nil r0
  obtain rfl : args = #[v0] := by cases args; simp_all
  obtain ⟨rfl, rfl⟩ := trodVars_none hV
  have k0 := h0
  have lt0 : ∀ x ∈ p0, x.block < W.heap.size := by obtain ⟨m, hm⟩ := k0; exact DataW.trod_lt m _ _ _ hm
  obtain ⟨a0, len0, cap0, L0, rfl, w0⟩ := open_cls (hval 0 22 v0 rfl rfl) h0
  have hTab := of_lay1 hL
  clear hA0 hval0
  refine (walk W a0 len0 cap0 L0 w0 hTab).mono fun e W' ⟨he, bel⟩ => ?_
  subst he
  exact ⟨_, rfl, _, _, _, [], _, [], hW', trodAll_mk1 (shut_bool Tryd.underlying4 _), (trodAll_cons_mk (Below.trod laidOut (by kernel_rfl) (of_decide_eq_true (by kernel_rfl)) k0 bel lt0) trodAll_mk0), rfl, bel.frame _, fun h => by cases h⟩
theorem over : Rows.vaultPlaysRow.holds Tryd.pinned (OpenSpec.ofChange Rows.vaultPlaysSpec) :=
  OpenClaim.holds_of_wide 3 Tryd.f3 rfl rfl rfl rfl rfl rfl rfl ⟨rfl, rfl, rfl, rfl, rfl⟩ rfl rfl rfl rfl rfl (by kernel_rfl) Tryd.func3 (by kernel_rfl)
    (of_decide_eq_true (by kernel_rfl)) (by unfold Func.isWrapper; first | (rw [if_pos (by decide +kernel)]; kernel_rfl) | (rw [if_neg (by decide +kernel)]; exact ⟨rfl, rfl⟩))
    (fun os started H enc _ => lifted os started H enc)
theorem vaultPlays_holds : Rows.VaultPlaysCardSaid :=
  Claim7.holds_tied_plain_at .later [] [.data] true (true, "3918f1ddf02261ad0a93f38998c4f98da4da0b9053f84aceed042060bea0f41d") false
    over (fun _ h => by cases h) (by kernel_rfl) (fun _ h => by cases h) vaultPlays_row_tie rfl ⟨rfl, rfl⟩ (by kernel_rfl) rfl
    (fun f fn hf hfn => by
      obtain rfl : f = 3 := Option.some.inj ((show Tryd.prog.funcNamed "jurat/juratlaw12.VaultPlays" = some 3 by kernel_rfl).symm.trans hf) |>.symm
      obtain rfl : fn = Tryd.f3 := (Option.some.inj (Tryd.func3.symm.trans hfn)).symm
      exact ⟨by kernel_rfl, fun j t ht => by
        rw [Tryd.params3] at ht
        have hm : t ∈ [22] := by simpa using Array.mem_of_getElem? ht
        have hall : ([22].all fun u => !Tryd.prog.wantsStandIn u) = true := by kernel_rfl
        exact (show Tryd.prog.wantsStandIn t = false by simpa using List.all_eq_true.1 hall t hm)⟩)
    (by kernel_rfl)
#print axioms vaultPlays_holds
end Go.Proofs.YtgiobcpljbpmiaaDoor.vaultPlays
