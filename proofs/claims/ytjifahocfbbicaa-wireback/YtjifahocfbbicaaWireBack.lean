/-
  WireBack, whole (Rows.WireBackSaid): what is written is read as it was, whatever stands behind it. No conditions.
  The frame is the shell of the proof by program (proof-skeleton); the walk is mine.
-/
import Derived.Test.YtjifahocfbbicaaRows
import Derived.WalkKit
import Derived.ProofKit
import Derived.OpenShut
import Derived.ShutString
import Derived.ChangeOld
import Derived.Below
import Derived.SizedLaws
import Derived.Test.YtjifahocfbbicaaSteps
namespace Go.Proofs.Ytjifahocfbbicaa.wireBack
open Go.ChangeShapes Go.WideShapes Go.ChangeAt Go.RowKit
set_option linter.unusedVariables false
theorem own : ownKnob Try.prog.godebug = none := by kernel_rfl
theorem laidOut : laidOutB Try.prog = true := by kernel_rfl
set_option maxRecDepth 100000 in
set_option maxHeartbeats 4000000 in
theorem walk (w : World) (a0 : Int) (w0 : (Lit.int .u64 a0).wf = true) (a1 : Option Addr) (len1 cap1 : Nat) (L : List (List UInt8)) (w1 : Bss w a1 len1 L) (a2 : Option Addr) (len2 cap2 : Nat) (B : List UInt8) (w2 : Bs w a2 len2 B) (s2 : len2 ≤ cap2 ∧ cap2 ≤ 140737488351232) :
    Calls Try.prog 5 #[.int .u64 a0, .slice a1 len1 cap1, .slice a2 len2 cap2] w fun e w' => e = .returned (.bool true) ∧ Below w.heap.size w w' := by
  have HB := Lib.hid w1
  have HB2 := Lib.hid w2
  have hbd := bounds_u64 w0
  obtain ⟨N, rfl⟩ := Int.eq_ofNat_of_zero_le hbd.1
  have hN : N < 18446744073709551616 := by have := hbd.2; omega
  have HL := Lib.hid (long_any a1 len1 cap1 L w w1)
  have hlen := w1.1
  have hlen2 := w2.1
  clear w1 hbd w0 w2
  by_cases hlong : longL L = true
  · rw [hlong] at HL
    clear hlong
    go_enter Try.func5, Try.ntmps5
    go_wp2_with (first
      | (go_at_call 10; refine HL.out.mono ?_; rintro e w2 ⟨rfl, rfl⟩)
      | (go_at_call 11; refine (awake_any _).mono ?_; rintro e w3 ⟨rfl, hb3⟩))
    go_ret
    exact ⟨rfl, hb3⟩
  · have hlong : longL L = false := by simpa using hlong
    obtain ⟨h100, h500⟩ := longL_no hlong
    rw [hlong] at HL
    clear hlong
    by_cases hl2 : 1000 < len2
    · clear hlen hlen2 h100 h500
      go_enter Try.func5, Try.ntmps5
      go_wp2_with (first
        | (go_at_call 10; refine HL.out.mono ?_; rintro e w2 ⟨rfl, rfl⟩)
        | (go_at_call 11; refine (awake_any _).mono ?_; rintro e w3 ⟨rfl, hb3⟩))
      go_ret
      exact ⟨rfl, hb3⟩
    · have HM := Lib.hid (fun l (h : l ∈ L) => Nat.le_trans (h500 l h) (by omega : 500 ≤ 1000000))
      have H500 := Lib.hid h500
      have hn : len1 ≤ 100 := by omega
      have hT := texts_le h100 h500
      have hLe := lists_le h100 h500
      have HTk := Lib.hid (fun k => texts_le (L := L.take k) (by rw [List.length_take]; omega) (fun l hl => h500 l (List.mem_of_mem_take hl)))
      have HTd := Lib.hid (fun k => texts_le (L := L.drop k) (by rw [List.length_drop]; omega) (fun l hl => h500 l (List.mem_of_mem_drop hl)))
      have hNb : (numB N).length ≤ 9 := by have := wide8 hN; rw [numB_length]; omega
      have HLA := Lib.hid (fun A c w h => List_any A len1 c L w h (by omega) HM.out)
      have HCO := Lib.hid (fun w h => copies_any a1 len1 cap1 L w h (by omega) HM.out)
      unfold NewList at HCO
      rw [hlen] at HCO
      have HN1 := Lib.hid (fun w => Num_any N w hN)
      unfold NewSlice at HN1 HLA
      have HSN := Lib.hid (num_step N hN (listB L ++ (textsB L ++ B)) (by simp only [List.length_append]; omega))
      have HSL := Lib.hid (fun g b w h => list_step L len1 hlen hn h500 (textsB L ++ B) (by simp only [List.length_append]; omega) g b w h (len1 : Int) (by omega) (by omega))
      have HST := Lib.hid (fun (k : Nat) (l : List UInt8) (hx : L[k]? = some l) g b w h => text_step l (textsB (L.drop (k + 1)) ++ B) (h500 l (List.mem_of_getElem? hx)) (by have h1 := HTd.out k; rw [drop_texts hx] at h1; simp only [List.length_append] at h1 ⊢; omega) g b w h (l.length : Int) (by omega) (by have := h500 l (List.mem_of_getElem? hx); omega))
      have HLS := Lib.hid (fun A c w h1 h2 => LSame_yes A a1 len1 c cap1 L w h1 h2 (by omega) HM.out)
      have HLn := Lib.hid hlen
      have HLn2 := Lib.hid hlen2
      have HNb := Lib.hid hNb
      have HLe := Lib.hid hLe
      obtain ⟨nn, hnn⟩ : ∃ nn, (numB N).length = nn := ⟨_, rfl⟩
      obtain ⟨ll, hll⟩ : ∃ ll, (listB L).length = ll := ⟨_, rfl⟩
      rw [hnn] at HN1 hNb
      rw [hll] at HLA hLe
      clear hlen hlen2 h100 h500 hT hnn hll
      generalize numB N = nb at *
      generalize listB L = lb at *
      go_enter Try.func5, Try.ntmps5
      go_wp2_with (first
        | (go_at_call 10; refine HL.out.mono ?_; rintro e w2 ⟨rfl, rfl⟩)
        | (go_at_call 16; refine (HN1.out _).mono ?_; rintro e2 w2 ⟨A2, c2, rfl, hc2, hb2, ho2⟩; have hs2 := hb2.size)
        | (go_at_call 19; refine (HCO.out _ (HB.out.below hb2)).mono ?_; rintro e3 w3 ⟨A3, c3, rfl, hc3, hb3, ho3⟩; have hbb3 := hb2.trans (hb3.mono hs2))
        | (go_at_call 18; refine (HLA.out _ _ _ ho3.bss).mono ?_; rintro e4 w4 ⟨A4, c4, rfl, hc4, hb4, ho4⟩; have hbb4 := hbb3.trans (hb4.mono hbb3.size); have HO2 := Lib.hid ((ho2.belowS hb3).belowS hb4); have HO4 := Lib.hid ho4; clear ho2 ho4)
        | (at_builtin; refine wpList_app Try.byteTypes rfl (.tmp 21) (.tmp 24) rfl w.heap.size (.slice A2 nn c2) nn nb rfl HO2.out A4 ll c4 lb rfl HO4.out.bs (by omega) hbb4.size ?_; intro A5 c5 w5 ho5 hb5 _; have HO5 := Lib.hid ho5; have hbb5 := hbb4.trans hb5; clear ho5))
      go_loopw [7, 8] (fun o i wr => ∃ (k m : Nat) (A1 : Option Addr) (c1 : Nat), k ≤ len1 ∧ i = .int .i64 k ∧ o = .slice A1 m c1 ∧ Below w.heap.size w wr ∧ Own wr w.heap.size 5 (.slice A1 m c1) m (nb ++ lb ++ textsB (L.take k))) (fun _ i _ => len1 - (intOf i).toNat)
      case atStart => exact ⟨0, _, A5, c5, Nat.zero_le _, rfl, rfl, hbb5, by simpa [textsB] using HO5.out⟩
      case round =>
        obtain ⟨k, m, A1, c1, hk, rfl, rfl, hb1, ho1⟩ := hrel
        have hs1 := hb1.size
        have hm : m ≤ 200000 := by rw [← ho1.length]; have := HTk.out k; have := HNb.out; have := HLe.out; simp only [List.length_append]; omega
        by_cases hlt : k < len1
        · obtain ⟨b, off, A', c', l, rfl, hb, hx, hc, hnc, hB'⟩ := (HB.out.below hb1).get hlt
          have HX := Lib.hid (textsB_take L k l hx)
          have hl : l.length ≤ 500 := H500.out l (List.mem_of_getElem? hx)
          have HB' := Lib.hid hB'
          have HO := Lib.hid ho1
          have HTl := Lib.hid (show (textB l).length ≤ 1000 by have := wide8 (N := l.length) (by omega); rw [textB_length]; omega)
          have HTA := Lib.hid (fun A c wr h => Text_any A l.length c l wr h (by omega))
          unfold NewSlice at HTA
          generalize textB l = tl at *
          obtain ⟨tn, htn⟩ : ∃ tn, tl.length = tn := ⟨_, rfl⟩
          rw [htn] at HTA HTl
          have htn' : tn ≤ 1000 := HTl.out
          clear hx hB' ho1 htn
          go_wp2_with (first
            | (go_at_call 14; refine (own_any _ _ _ l _ HB'.out (by omega)).mono ?_; rintro e2 w6 ⟨A6, c6, rfl, hc6, hb6, ho6⟩)
            | (go_at_call 13; refine (HTA.out _ _ _ ho6.bs).mono ?_; rintro e2 w7 ⟨A7, c7, rfl, hc7, hb7, ho7⟩; have hb67 := hb6.trans (hb7.mono hb6.size); have hs67 := hb67.size)
            | (at_builtin; refine wpList_app Try.byteTypes rfl (.tmp 32) (.tmp 38) rfl w.heap.size (.slice A1 m c1) m _ rfl (HO.out.belowS hb67) A7 tn c7 tl rfl ho7.bs (by omega) (by omega) ?_; intro A8 c8 w8 ho8 hb8 _))
          go_roundw
          case rel => exact ⟨k + 1, _, A8, c8, by omega, by go_num, rfl, (hb1.trans (hb67.mono hs1)).trans hb8, by rw [HX.out, ← List.append_assoc]; exact ho8⟩
          case measure => simp [intOf]; omega
        · obtain rfl : k = len1 := by omega
          have HO := Lib.hid (show Own wr w.heap.size 5 (.slice A1 m c1) m (nb ++ lb ++ textsB L) by rwa [List.take_of_length_le (by rw [HLn.out]; exact Nat.le_refl _)] at ho1)
          clear ho1
          have HRd := Lib.hid (fun A c w (h : Bs w A (m + len2) (nb ++ lb ++ textsB L ++ B)) => Read_any A (m + len2) c _ w h (by omega))
          have HE : Hid (nb ++ lb ++ textsB L ++ B = nb ++ (lb ++ (textsB L ++ B))) := Lib.hid (by simp only [List.append_assoc])
          go_wp2_with (first
            | (at_builtin; refine wpList_app Try.byteTypes rfl (.tmp 40) (.tmp 41) rfl w.heap.size (.slice A1 m c1) m _ rfl HO.out a2 len2 cap2 B rfl (HB2.out.below hb1) (by omega) hs1 ?_; intro A8 c8 w8 ho8 hb8 _; have hbb8 := hb1.trans hb8)
            | (go_at_call 21; refine (HRd.out _ _ _ ho8.bs).mono ?_; rintro e9 w9 ⟨g, b, rfl, hg, hbk, hr9, hb9⟩; have hbb9 := hbb8.trans (hb9.mono hbb8.size); have hgw := Nat.le_trans hbb8.size hg; have hbw := Nat.le_trans hbb8.size hbk; have HR9 : Hid (Rdr w9 61 g b 0 (nb ++ (lb ++ (textsB L ++ B)))) := Lib.hid (HE.out ▸ hr9); clear hr9)
            | (go_at_call 22; refine (HSN.out g b _ HR9.out).mono ?_; rintro e10 w10 ⟨rfl, hr10, ho10⟩; have hbb10 := hbb9.trans (ho10.below hgw hbb9.size); have HR10 := Lib.hid hr10; clear hr10)
            | (go_at_call 27; refine (HSL.out g b _ HR10.out).mono ?_; rintro e11 w11 ⟨A11, c11, rfl, ho11, hr11, hon11⟩; have hbb11 := hbb10.trans (hon11.below hgw hbb10.size); have HR11 := Lib.hid hr11; clear hr11)
            | (go_at_call 26; refine (HLS.out _ _ _ ho11.bss (HB.out.below hbb11)).mono ?_; rintro e12 w12 ⟨rfl, m12, rfl⟩; have HR12 := Lib.hid (HR11.out.drewN m12); have hbb12 := below_drewN hbb11 m12))
          go_loopw [10] (fun i wr => ∃ j : Nat, j ≤ k ∧ i = .int .i64 j ∧ Below w.heap.size w wr ∧ Rdr wr 61 g b 0 (textsB (L.drop j) ++ B)) (fun i _ => k - (intOf i).toNat)
          case atStart => exact ⟨0, Nat.zero_le _, rfl, hbb12, HR12.out⟩
          case round =>
            obtain ⟨j, hj, rfl, hbj, hrj⟩ := hrel
            have hsj := hbj.size
            have HRj := Lib.hid hrj
            clear hrj
            by_cases hlt : j < k
            · obtain ⟨bb, off, A', c', l, rfl, hbl, hx, hc, hnc, hB'⟩ := HB.out.get hlt
              have hl : l.length ≤ 500 := H500.out l (List.mem_of_getElem? hx)
              have HB' := Lib.hid hB'
              have hi : (j : Int) < (k : Int) := by omega
              have HT := Lib.hid (HST.out j l hx g b)
              have HD := Lib.hid (show textsB (L.drop j) ++ B = textB l ++ (textsB (L.drop (j + 1)) ++ B) by rw [drop_texts hx, List.append_assoc])
              rw [HD.out] at HRj
              have hcj : wr.cell? ⟨bb, off + j, none⟩ = some (.slice A' l.length c') := (hbj.cell (p := ⟨bb, off + j, none⟩) hbl).trans hc
              clear hx hB' HD
              have K0 : wr.drew.cell? ⟨bb, off + j, none⟩ = some (.slice A' l.length c') := hcj
              go_wp2
              go_region_held3 (fun w' => w'.cell? ⟨bb, off + j, none⟩ = some (.slice A' l.length c')) (first | (with_reducible exact K0) | (with_reducible exact K14) | (with_reducible exact K13))
                (first
                  | (go_at_call 24; (refine (HT.out wr.drew HRj.out).mono ?_; rintro e13 w13 ⟨A13, c13, rfl, ho13, hr13, hon13⟩; have hbb13 : Below w.heap.size w w13 := hbj.drew.trans (hon13.below hgw hsj); have HR13 := Lib.hid hr13; have K13 : w13.cell? ⟨bb, off + j, none⟩ = some (.slice A' l.length c') := (hbb13.cell (p := ⟨bb, off + j, none⟩) hbl).trans hc; clear hr13))
                  | (go_at_call 12; (refine (Same_yes A13 A' l.length c13 c' l w13 ho13.bs (HB'.out.below hbb13) (by omega)).mono ?_; rintro e14 w14 ⟨rfl, m14, rfl⟩; have K14 : (w13.drewN m14).cell? ⟨bb, off + j, none⟩ = some (.slice A' l.length c') := K13)))
              all_goals
                go_wp2
                go_roundw
                case rel => exact ⟨j + 1, by omega, by go_num, below_drewN hbb13 _, HR13.out.drewN _⟩
                case measure => simp [intOf]; omega
            · obtain rfl : j = k := by omega
              have HD := Lib.hid (show textsB (L.drop j) ++ B = B by rw [List.drop_eq_nil_of_le (by rw [HLn.out]; exact Nat.le_refl _)]; rfl)
              rw [HD.out] at HRj
              have HLe2 := Lib.hid (Left_any g b 0 B wr HRj.out)
              rw [HLn2.out] at HLe2
              have HEE := Lib.hid (REnd_any g b 0 B wr HRj.out)
              clear HD
              by_cases h0 : len2 = 0
              · have hse : sEnd 0 B = 0 := by unfold sEnd; rw [if_neg]; rintro ⟨_, h⟩; exact h (HB2.out.empty h0)
                rw [hse] at HEE
                unfold REnd at HEE
                clear hse
                subst h0
                go_wp2_with (first
                  | (go_at_call 35; refine (Err_rdr g b 0 B _ HRj.out).mono ?_; rintro e15 w15 ⟨rfl, rfl⟩)
                  | (go_at_call 36; refine HLe2.out.mono ?_; rintro e15 w15 ⟨rfl, rfl⟩)
                  | (go_at_call 33; refine HEE.out.mono ?_; rintro e16 w16 ⟨rfl, hr16, hon16⟩; have hbb16 := hbj.trans (hon16.below hgw hsj))
                  | (go_at_call 11; refine (awake_any _).mono ?_; rintro e17 w17 ⟨rfl, hb17⟩))
                go_ret
                exact ⟨rfl, hbb16.trans (hb17.mono hbb16.size)⟩
              · have hse : sEnd 0 B = 43 := by unfold sEnd; rw [if_pos]; exact ⟨rfl, fun h => h0 (by rw [← HLn2.out, h]; rfl)⟩
                rw [hse] at HEE
                unfold REnd at HEE
                have hz : ((len2 : Int) == 0) = false := by simp; omega
                clear hse
                go_wp2_with (first
                  | (go_at_call 35; refine (Err_rdr g b 0 B _ HRj.out).mono ?_; rintro e15 w15 ⟨rfl, rfl⟩)
                  | (go_at_call 36; refine HLe2.out.mono ?_; rintro e15 w15 ⟨rfl, rfl⟩)
                  | (go_at_call 33; refine HEE.out.mono ?_; rintro e16 w16 ⟨rfl, hr16, hon16⟩; have hbb16 := hbj.trans (hon16.below hgw hsj))
                  | (go_at_call 11; refine (awake_any _).mono ?_; rintro e17 w17 ⟨rfl, hb17⟩))
                go_ret
                exact ⟨rfl, hbb16.trans (hb17.mono hbb16.size)⟩

set_option maxRecDepth 100000 in
theorem lifted (os : Os) (started : os.Started) (H : Type) (enc : TypeId × Value → H) :
    ReturnsInHanded {} Try.checked os 5 .any (Rows.wireBackSpec.pre6 enc Try.prog Try.f5 Rows.wireBackRow.domain false) (Rows.wireBackSpec.post enc Try.prog Try.f5 false true false false) := by
  refine returnsInHanded_of_change_sized (C := Try.checked) own started (by kernel_rfl) Try.func5
    (ChangeSpec.witness6 (enc := enc) (C := Try.checked) false ⟨#[], #[.int .u64 0, .slice none 0 0, .slice none 0 0], []⟩ 8 (by kernel_rfl) (by kernel_rfl) (by kernel_rfl) (by kernel_rfl)) ?_
  intro W base args ds gs before hval0 hW hcnd hsz0 _
  have hval : ∀ (j : Nat) t v, Try.f5.params[j]? = some t → args[j]? = some v → Value.okWide Try.prog W .any base t v := hval0
  have hW' := hW
  obtain ⟨p, q, hA0, hV, rfl, hfz, hnd⟩ := hW
  have hA : DataW.TrodAll enc Try.prog W 0 (fun _ => true) true Try.f5.params.toList args.toList ds p := hA0
  have hsz : (DataW.weightsEach Try.prog (Try.f5.params.toList ++ Rows.wireBackSpec.plain.varTypes Try.prog) (ds ++ gs)).all (· ≤ reachBytes) = true := hsz0
  rw [Try.params5] at hA hval hsz
  obtain ⟨v0, vs0, d0, ds0, p0, q0, hargs, rfl, rfl, h0, r0⟩ := trodAll_cons hA
  obtain ⟨v1, vs1, d1, ds1, p1, q1, rfl, rfl, rfl, h1, r1⟩ := trodAll_cons r0
  obtain ⟨v2, vs2, d2, ds2, p2, q2, rfl, rfl, rfl, h2, r2⟩ := trodAll_cons r1
  obtain ⟨rfl, rfl, rfl⟩ := trodAll_nil r2
  obtain rfl : args = #[v0, v1, v2] := by cases args; simp_all
  obtain ⟨rfl, rfl⟩ := trodVars_none hV
  obtain ⟨a0, rfl, rfl, rfl, w0⟩ := open_int Try.underlying22 (hval 0 22 v0 rfl rfl) h0
  have k1 := h1
  have lt1 : ∀ x ∈ p1, x.block < W.heap.size := by obtain ⟨m, hm⟩ := k1; exact DataW.trod_lt m _ _ _ hm
  obtain ⟨a1, len1, cap1, l1, rfl, w1⟩ := open_bss (hval 1 23 v1 rfl rfl) h1
  have k2 := h2
  have lt2 : ∀ x ∈ p2, x.block < W.heap.size := by obtain ⟨m, hm⟩ := k2; exact DataW.trod_lt m _ _ _ hm
  obtain ⟨a2, len2, cap2, rfl⟩ := okWide_slice Try.underlying27 (hval 2 27 v2 rfl rfl)
  obtain ⟨l2, w2, s2⟩ : ∃ l, Bs W a2 len2 l ∧ len2 ≤ cap2 ∧ cap2 ≤ 140737488351232 := by
    obtain ⟨fuel, hf⟩ := h2
    rcases open_ints Try.underlying27 Try.underlying5 (by kernel_rfl) hf with ⟨hcs, _⟩ | ⟨x, l, c, zs, hcs, _, hl, hm, hz, hx, hcell, hwz⟩
    · simp [Value.cells] at hcs
      obtain ⟨rfl, rfl, rfl⟩ := hcs
      exact ⟨[], Bs.nil _ _, by omega, by omega⟩
    · simp [Value.cells] at hcs
      obtain ⟨rfl, rfl, rfl⟩ := hcs
      simp only [Prod.mk.injEq] at hx
      obtain ⟨rfl, _⟩ := hx
      have hb := sized_slice hsz (j := 2) (t := 27) (e := 5) rfl rfl Try.underlying27
      rw [show Try.prog.bytesOf 5 = 1 from by kernel_rfl] at hb
      simp only [lits, List.length_map, List.length_take, List.length_drop, reachBytes] at hb
      have hz' : zs.length = cap2 := by simpa using hz
      exact ⟨_, Bs.of_ints hl hz' hcell hwz, hl, by omega⟩
  clear hA0 hval0
  refine (walk W a0 w0 a1 len1 cap1 l1 w1 a2 len2 cap2 l2 w2 s2).mono fun e W' ⟨he, bel⟩ => ?_
  subst he
  exact ⟨_, rfl, _, _, _, [], _, [], hW', trodAll_mk1 (shut_bool Try.underlying4 _), (trodAll_cons_mk (shut_int Try.underlying22 w0) (trodAll_cons_mk (Below.trod laidOut (by kernel_rfl) (of_decide_eq_true (by kernel_rfl)) k1 bel lt1) (trodAll_cons_mk (Below.trod laidOut (by kernel_rfl) (of_decide_eq_true (by kernel_rfl)) k2 bel lt2) trodAll_mk0))), rfl, bel.frame _, fun h => by cases h⟩
theorem over : Rows.wireBackRow.holds Try.pinned (OpenSpec.ofChange Rows.wireBackSpec) :=
  OpenClaim.holds_of_wide 5 Try.f5 rfl rfl rfl rfl rfl rfl rfl ⟨rfl, rfl, rfl, rfl, rfl⟩ rfl rfl rfl rfl rfl (by kernel_rfl) Try.func5 (by kernel_rfl)
    (of_decide_eq_true (by kernel_rfl)) (by unfold Func.isWrapper; first | (rw [if_pos (by decide +kernel)]; kernel_rfl) | (rw [if_neg (by decide +kernel)]; exact ⟨rfl, rfl⟩))
    (fun os started H enc _ => lifted os started H enc)
theorem wireBack_holds : Rows.WireBackSaid := over
#print axioms wireBack_holds
end Go.Proofs.Ytjifahocfbbicaa.wireBack
