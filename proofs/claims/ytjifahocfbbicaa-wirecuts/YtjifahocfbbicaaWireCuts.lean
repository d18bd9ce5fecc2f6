/-
  WireCuts, whole (Rows.WireCutsSaid): of no beginning of a list's bytes, a text's or a number's one is read. No conditions.
  The frame is the shell of the proof by program (proof-skeleton); the walk is mine.
-/
import Derived.Test.YtjifahocfbbicaaRows
import Derived.WalkKit
import Derived.ProofKit
import Derived.OpenShut
import Derived.ShutString
import Derived.ChangeOld
import Derived.Below
import Derived.SizedLaws
import Derived.Test.YtjifahocfbbicaaSteps
namespace Go.Proofs.Ytjifahocfbbicaa.wireCuts
open Go.ChangeShapes Go.WideShapes Go.ChangeAt Go.RowKit
set_option linter.unusedVariables false
theorem own : ownKnob Try.prog.godebug = none := by kernel_rfl
theorem laidOut : laidOutB Try.prog = true := by kernel_rfl
theorem cut_head (A : Option Addr) (n c m : Nat) (z : Int) (hz : z = (m : Int)) (hm : m ≤ n) (hnc : n ≤ c) :
    ∃ A', (∀ w, (Instr.sliceAt 27 (.slice A n c) none (some (.int .i64 z)) none).run Try.prog w = .ok (.slice A' m c) w) ∧ (∀ w l, Bs w A n l → Bs w A' m (l.take m)) := by
  subst hz
  refine ⟨if c = 0 then A else A.map (·.add (0 * 1)), fun w => ?_, fun w l hb => ?_⟩
  · have h2 : (m : Int) ≤ c := by omega
    simp [Instr.sliceAt, Instr.slice, run_underlying Try.byteTypes.ht, Instr.sliceBounds, run_sliceBound, h2]
  · by_cases hc : c = 0
    · rw [if_pos hc]; exact hb.take hm
    · rw [if_neg hc]
      by_cases hn : n = 0
      · rw [show m = 0 by omega, List.take_zero]; exact Bs.nil _ _
      · obtain ⟨b, off, x, hA, _⟩ := hb.get (k := 0) (by omega)
        subst hA
        rw [Option.map_some, Addr.add_mid]
        exact hb.take hm
theorem num_cut (N : Nat) (hN : N < 18446744073709551616) (m : Nat) (hm : m < (numB N).length) (g b : Nat) (w : World) (h : Rdr w 61 g b 0 ((numB N).take m)) :
    Calls Try.prog 22 #[.pointer (some ⟨g, 0, none⟩), .int .u64 18446744073709551615] w fun e w' => e = .returned (.int .u64 0) ∧ Rdr w' 61 g b 40 ((numB N).take m) ∧ Only g w w' := by
  have hl : ((numB N).take m).length ≤ 1000000000 := by have := wide8 hN; rw [List.length_take, numB_length]; omega
  have h1 := RNum_any g b 0 _ 18446744073709551615 w h hl (by omega) (by omega)
  have e : sNum 0 ((numB N).take m) 18446744073709551615 = (40, 0, 0) := by
    unfold sNum; rw [if_pos rfl, rdLen_max]
    have := rdNum_cut N m hN [] hm
    rwa [List.append_nil] at this
  rw [e] at h1
  exact h1
theorem list_cut (L : List (List UInt8)) (h1 : L.length ≤ 100) (h5 : ∀ l ∈ L, l.length ≤ 500) (m : Nat) (hm : m < (listB L).length) (g b : Nat) (w : World) (h : Rdr w 61 g b 0 ((listB L).take m)) :
    Calls Try.prog 27 #[.pointer (some ⟨g, 0, none⟩), .int .i64 100, .int .i64 500] w fun e w' => (∃ A c, e = .returned (.slice A 0 c)) ∧ Rdr w' 61 g b 40 ((listB L).take m) ∧ Only g w w' := by
  have hl : ((listB L).take m).length ≤ 1000000000 := by have := lists_le h1 h5; rw [List.length_take]; omega
  have h2 := RList_any g b 0 _ 100 500 w h hl (by omega) (by omega)
  have e : sList 0 ((listB L).take m) 100 500 = (40, [], 0) := by
    unfold sList; rw [if_pos rfl, rdList_cut L 100 500 (fun t ht => by have := h5 t ht; omega) (by omega) (by omega) m hm]
  rw [e] at h2
  exact h2.mono fun e w' ⟨A, c, h3, _, _, h4, h5⟩ => ⟨⟨A, c, h3⟩, h4, h5⟩
theorem text_cut (l : List UInt8) (h5 : l.length ≤ 500) (m : Nat) (hm : m < (textB l).length) (g b : Nat) (w : World) (h : Rdr w 61 g b 0 ((textB l).take m)) :
    Calls Try.prog 24 #[.pointer (some ⟨g, 0, none⟩), .int .i64 500] w fun e w' => (∃ A c, e = .returned (.slice A 0 c)) ∧ Rdr w' 61 g b 40 ((textB l).take m) ∧ Only g w w' := by
  have hl : ((textB l).take m).length ≤ 1000000000 := by have := wide8 (N := l.length) (by omega); rw [List.length_take, textB_length]; omega
  have h2 := RText_any g b 0 _ 500 w h hl (by omega)
  have e : sText 0 ((textB l).take m) 500 = (40, [], 0) := by
    unfold sText; rw [if_pos rfl]
    have := rdText_cut l [] 500 (by omega) (by omega) m hm
    rwa [List.append_nil] at this
  rw [e] at h2
  exact h2.mono fun e w' ⟨A, c, h3, _, _, h4, h5⟩ => ⟨⟨A, c, h3⟩, h4, h5⟩
theorem end_cut (g b : Nat) (l : List UInt8) (w : World) (h : Rdr w 61 g b 40 l) : Calls Try.prog 33 #[.pointer (some ⟨g, 0, none⟩)] w fun e w' => e = .returned (.int .i64 40) ∧ Rdr w' 61 g b 40 l ∧ Only g w w' := by
  have h1 := REnd_any g b 40 l w h
  rwa [show sEnd 40 l = 40 by unfold sEnd; rw [if_neg]; rintro ⟨h, _⟩; cases h] at h1
set_option maxRecDepth 100000 in
set_option maxHeartbeats 8000000 in
theorem walk (w : World) (a0 : Int) (w0 : (Lit.int .u64 a0).wf = true) (a1 : Option Addr) (len1 cap1 : Nat) (L : List (List UInt8)) (w1 : Bss w a1 len1 L) (a2 : Int) (w2 : (Lit.int .i64 a2).wf = true) :
    Calls Try.prog 7 #[.int .u64 a0, .slice a1 len1 cap1, .int .i64 a2] w fun e w' => e = .returned (.bool true) ∧ Below w.heap.size w w' := by
  have HB := Lib.hid w1
  have hbd := bounds_u64 w0
  have hbd2 := bounds_i64 w2
  obtain ⟨N, rfl⟩ := Int.eq_ofNat_of_zero_le hbd.1
  have hN : N < 18446744073709551616 := by have := hbd.2; omega
  have HL := Lib.hid (long_any a1 len1 cap1 L w w1)
  have hlen := w1.1
  clear w1 hbd w0 w2
  by_cases hlong : longL L = true
  · rw [hlong] at HL
    clear hlong
    go_enter Try.func7, Try.ntmps7
    go_wp2_with (first
      | (go_at_call 10; refine HL.out.mono ?_; rintro e w2 ⟨rfl, rfl⟩)
      | (go_at_call 11; refine (awake_any _).mono ?_; rintro e w3 ⟨rfl, hb3⟩))
    go_ret
    exact ⟨rfl, hb3⟩
  have hlong : longL L = false := by simpa using hlong
  obtain ⟨h100, h500⟩ := longL_no hlong
  rw [hlong] at HL
  clear hlong
  by_cases hneg : a2 < 0
  · clear hlen h100 h500
    go_enter Try.func7, Try.ntmps7
    go_wp2_with (first
      | (go_at_call 10; refine HL.out.mono ?_; rintro e w2 ⟨rfl, rfl⟩)
      | (go_at_call 11; refine (awake_any _).mono ?_; rintro e w3 ⟨rfl, hb3⟩))
    go_ret
    exact ⟨rfl, hb3⟩
  obtain ⟨C, rfl⟩ := Int.eq_ofNat_of_zero_le (show 0 ≤ a2 by omega)
  have hC : C < 9223372036854775808 := by have := hbd2.2; omega
  have HM := Lib.hid (fun l (h : l ∈ L) => Nat.le_trans (h500 l h) (by omega : 500 ≤ 1000000))
  have H500 := Lib.hid h500
  have hn : len1 ≤ 100 := by omega
  obtain ⟨nn, hnn⟩ : ∃ nn, (numB N).length = nn := ⟨_, rfl⟩
  obtain ⟨ll, hll⟩ : ∃ ll, (listB L).length = ll := ⟨_, rfl⟩
  have hnn1 : 0 < nn ∧ nn ≤ 9 := by have := wide8 hN; rw [← hnn, numB_length]; omega
  have hll1 : 0 < ll ∧ ll ≤ 60000 := by
    have h := lists_le h100 h500
    have : 0 < (listB L).length := by rw [listB, List.length_append, numB_length]; omega
    omega
  have HLA := Lib.hid (fun A c w h => List_any A len1 c L w h (by omega) HM.out)
  have HCO := Lib.hid (fun w h => copies_any a1 len1 cap1 L w h (by omega) HM.out)
  have HN1 := Lib.hid (fun w => Num_any N w hN)
  unfold NewList at HCO
  unfold NewSlice at HN1 HLA
  rw [hlen] at HCO
  rw [hnn] at HN1
  rw [hll] at HLA
  have HXN := Lib.hid (fun m (h : m < nn) => num_cut N hN m (by rw [hnn]; exact h))
  have HXL := Lib.hid (fun m (h : m < ll) => list_cut L h100 h500 m (by rw [hll]; exact h))
  clear hlen h100 h500 hbd2 hnn hll
  generalize numB N = nb at *
  generalize listB L = lb at *
  go_enter Try.func7, Try.ntmps7
  go_wp2_with (go_at_call 10; refine HL.out.mono ?_; rintro e w2 ⟨rfl, rfl⟩)
  go_loopw [7] (fun i wr => ∃ z : Int, 0 ≤ z ∧ z ≤ 3 ∧ i = .int .i64 z ∧ Below w.heap.size w wr) (fun i _ => (3 - intOf i).toNat)
  case atStart => exact ⟨0, by omega, by omega, rfl, Below.refl _ _⟩
  case round =>
    obtain ⟨z, hz0, hz3, rfl, p0⟩ := hrel
    have hs0 := p0.size
    rcases (by omega : z = 0 ∨ z = 1 ∨ z = 2 ∨ z = 3) with rfl | rfl | rfl | rfl
    · obtain ⟨m, hm⟩ : ∃ m, C % nn = m := ⟨_, rfl⟩
      have hmlt : m < nn := by rw [← hm]; exact Nat.mod_lt _ (by omega)
      have hzq : ((nn : Int) == 0) = false := by simp; omega
      have hrem : (C : Int).tmod (nn : Int) = (m : Int) := by rw [Int.tmod_eq_emod_of_nonneg (by omega)]; omega
      clear hm
      go_wp2_with (first
        | (go_at_call 16; refine (HN1.out _).mono ?_; rintro e wq ⟨Aq, cq, rfl, hcq, hbq, hoq⟩; have pq := p0.trans (hbq.mono p0.size))
        | ((with_reducible refine wpList_head Try.byteTypes rfl (.tmp 43) (.tmp 47) rfl Aq nn cq m rfl rfl (by omega) hcq ?_); intro A5 hA5)
        | (go_at_call 21; refine (Read_any A5 m cq _ _ (hA5 _ _ hoq.bs) (by omega)).mono ?_; rintro e w6 ⟨g, b, rfl, hg, hbk, hr6, hb6⟩; have p6 := pq.trans (hb6.mono pq.size); have hG := Nat.le_trans pq.size hg; have H6 := Lib.hid hr6; clear hr6)
        | (go_at_call 22; refine (HXN.out m hmlt g b _ H6.out).mono ?_; rintro e w7 ⟨rfl, hr7, ho7⟩; have p7 := p6.trans (ho7.below hG p6.size); have H7 := Lib.hid hr7; clear hr7)
        | (go_at_call 35; refine (Err_rdr g b 40 _ _ H7.out).mono ?_; rintro e w8 ⟨rfl, rfl⟩)
        | (go_at_call 33; refine (end_cut g b _ _ H7.out).mono ?_; rintro e w9 ⟨rfl, hr9, ho9⟩; have p9 := p7.trans (ho9.below hG p7.size)))
      go_roundw
      case rel => exact ⟨1, by omega, by omega, by go_num, p9⟩
      case measure => simp [intOf]
    · obtain ⟨m, hm⟩ : ∃ m, C % ll = m := ⟨_, rfl⟩
      have hmlt : m < ll := by rw [← hm]; exact Nat.mod_lt _ (by omega)
      have hzq : ((ll : Int) == 0) = false := by simp; omega
      have hrem : (C : Int).tmod (ll : Int) = (m : Int) := by rw [Int.tmod_eq_emod_of_nonneg (by omega)]; omega
      clear hm
      go_wp2_with (first
        | (go_at_call 16; refine (HN1.out _).mono ?_; rintro e w1 ⟨A1, c1, rfl, hc1, hb1, ho1⟩; have p1 := p0.trans (hb1.mono p0.size))
        | (go_at_call 19; refine (HCO.out _ (HB.out.below p1)).mono ?_; rintro e w2 ⟨A2, c2, rfl, hc2, hb2, ho2⟩; have p2 := p1.trans (hb2.mono p1.size))
        | (go_at_call 18; refine (HLA.out _ _ _ ho2.bss).mono ?_; rintro e wq ⟨Aq, cq, rfl, hcq, hbq, hoq⟩; have pq := p2.trans (hbq.mono p2.size))
        | ((with_reducible refine wpList_head Try.byteTypes rfl (.tmp 43) (.tmp 47) rfl Aq ll cq m rfl rfl (by omega) hcq ?_); intro A5 hA5)
        | (go_at_call 21; refine (Read_any A5 m cq _ _ (hA5 _ _ hoq.bs) (by omega)).mono ?_; rintro e w6 ⟨g, b, rfl, hg, hbk, hr6, hb6⟩; have p6 := pq.trans (hb6.mono pq.size); have hG := Nat.le_trans pq.size hg; have H6 := Lib.hid hr6; clear hr6)
        | (go_at_call 27; refine (HXL.out m hmlt g b _ H6.out).mono ?_; rintro e w7 ⟨⟨A7, c7, rfl⟩, hr7, ho7⟩; have p7 := p6.trans (ho7.below hG p6.size); have H7 := Lib.hid hr7; clear hr7)
        | (go_at_call 35; refine (Err_rdr g b 40 _ _ H7.out).mono ?_; rintro e w8 ⟨rfl, rfl⟩)
        | (go_at_call 33; refine (end_cut g b _ _ H7.out).mono ?_; rintro e w9 ⟨rfl, hr9, ho9⟩; have p9 := p7.trans (ho9.below hG p7.size)))
      go_roundw
      case rel => exact ⟨2, by omega, by omega, by go_num, p9⟩
      case measure => simp [intOf]
    · by_cases hpos : 0 < len1
      · obtain ⟨bb, off, A', c', l, rfl, hbl, hx, hc, hnc, hB'⟩ := HB.out.get hpos
        have hl : l.length ≤ 500 := H500.out l (List.mem_of_getElem? hx)
        have HB' := Lib.hid hB'
        have hi : (0 : Int) < (len1 : Int) := by omega
        rw [Nat.add_zero] at hc
        obtain ⟨tt, htt⟩ : ∃ tt, (textB l).length = tt := ⟨_, rfl⟩
        have htt1 : 0 < tt ∧ tt ≤ 1000 := by have := wide8 (N := l.length) (by omega); rw [← htt, textB_length]; omega
        have HXT := Lib.hid (fun m (h : m < tt) => text_cut l hl m (by rw [htt]; exact h))
        have HTA := Lib.hid (fun A c w h => Text_any A l.length c l w h (by omega))
        unfold NewSlice at HTA
        rw [htt] at HTA
        clear htt hx hB'
        generalize textB l = tb at *
        have hcr : ∀ wx, Below w.heap.size w wx → wx.cell? ⟨bb, off, none⟩ = some (.slice A' l.length c') := fun wx hw => (hw.cell (p := ⟨bb, off, none⟩) hbl).trans hc
        have HCR := Lib.hid hcr
        clear hcr
        obtain ⟨m, hm⟩ : ∃ m, C % tt = m := ⟨_, rfl⟩
        have hmlt : m < tt := by rw [← hm]; exact Nat.mod_lt _ (by omega)
        have hzq : ((tt : Int) == 0) = false := by simp; omega
        have hrem : (C : Int).tmod (tt : Int) = (m : Int) := by rw [Int.tmod_eq_emod_of_nonneg (by omega)]; omega
        clear hm
        go_wp2_with (first
          | (go_at_call 16; refine (HN1.out _).mono ?_; rintro e w1 ⟨A1, c1, rfl, hc1, hb1, ho1⟩; have p1 := p0.trans (hb1.mono p0.size); have hcell := HCR.out _ p1)
          | (go_at_call 14; refine (own_any A' l.length c' l _ (HB'.out.below p1) (by omega)).mono ?_; rintro e w2 ⟨A2, c2, rfl, hc2, hb2, ho2⟩; have p2 := p1.trans (hb2.mono p1.size))
          | (go_at_call 13; refine (HTA.out _ _ _ ho2.bs).mono ?_; rintro e wq ⟨Aq, cq, rfl, hcq, hbq, hoq⟩; have pq := p2.trans (hbq.mono p2.size))
          | ((with_reducible refine wpList_head Try.byteTypes rfl (.tmp 43) (.tmp 47) rfl Aq tt cq m rfl rfl (by omega) hcq ?_); intro A5 hA5)
          | (go_at_call 21; refine (Read_any A5 m cq _ _ (hA5 _ _ hoq.bs) (by omega)).mono ?_; rintro e w6 ⟨g, b, rfl, hg, hbk, hr6, hb6⟩; have p6 := pq.trans (hb6.mono pq.size); have hG := Nat.le_trans pq.size hg; have H6 := Lib.hid hr6; clear hr6)
          | (go_at_call 24; refine (HXT.out m hmlt g b _ H6.out).mono ?_; rintro e w7 ⟨⟨A7, c7, rfl⟩, hr7, ho7⟩; have p7 := p6.trans (ho7.below hG p6.size); have H7 := Lib.hid hr7; clear hr7)
          | (go_at_call 35; refine (Err_rdr g b 40 _ _ H7.out).mono ?_; rintro e w8 ⟨rfl, rfl⟩)
          | (go_at_call 33; refine (end_cut g b _ _ H7.out).mono ?_; rintro e w9 ⟨rfl, hr9, ho9⟩; have p9 := p7.trans (ho9.below hG p7.size)))
        go_roundw
        case rel => exact ⟨3, by omega, by omega, by go_num, p9⟩
        case measure => simp [intOf]
      · have hz1 : len1 = 0 := by omega
        subst hz1
        obtain ⟨m, hm⟩ : ∃ m, C % nn = m := ⟨_, rfl⟩
        have hmlt : m < nn := by rw [← hm]; exact Nat.mod_lt _ (by omega)
        have hzq : ((nn : Int) == 0) = false := by simp; omega
        have hrem : (C : Int).tmod (nn : Int) = (m : Int) := by rw [Int.tmod_eq_emod_of_nonneg (by omega)]; omega
        clear hm
        go_wp2_with (first
          | (go_at_call 16; refine (HN1.out _).mono ?_; rintro e wq ⟨Aq, cq, rfl, hcq, hbq, hoq⟩; have pq := p0.trans (hbq.mono p0.size))
          | ((with_reducible refine wpList_head Try.byteTypes rfl (.tmp 43) (.tmp 47) rfl Aq nn cq m rfl rfl (by omega) hcq ?_); intro A5 hA5)
          | (go_at_call 21; refine (Read_any A5 m cq _ _ (hA5 _ _ hoq.bs) (by omega)).mono ?_; rintro e w6 ⟨g, b, rfl, hg, hbk, hr6, hb6⟩; have p6 := pq.trans (hb6.mono pq.size); have hG := Nat.le_trans pq.size hg; have H6 := Lib.hid hr6; clear hr6)
          | (go_at_call 22; refine (HXN.out m hmlt g b _ H6.out).mono ?_; rintro e w7 ⟨rfl, hr7, ho7⟩; have p7 := p6.trans (ho7.below hG p6.size); have H7 := Lib.hid hr7; clear hr7)
          | (go_at_call 35; refine (Err_rdr g b 40 _ _ H7.out).mono ?_; rintro e w8 ⟨rfl, rfl⟩)
          | (go_at_call 33; refine (end_cut g b _ _ H7.out).mono ?_; rintro e w9 ⟨rfl, hr9, ho9⟩; have p9 := p7.trans (ho9.below hG p7.size)))
        go_roundw
        case rel => exact ⟨3, by omega, by omega, by go_num, p9⟩
        case measure => simp [intOf]
    · go_wp2_with (go_at_call 11; refine (awake_any _).mono ?_; rintro e w3 ⟨rfl, hb3⟩)
      go_ret
      exact ⟨rfl, p0.trans (hb3.mono p0.size)⟩

set_option maxRecDepth 100000 in
theorem lifted (os : Os) (started : os.Started) (H : Type) (enc : TypeId × Value → H) :
    ReturnsInHanded {} Try.checked os 7 .any (Rows.wireCutsSpec.pre6 enc Try.prog Try.f7 Rows.wireCutsRow.domain false) (Rows.wireCutsSpec.post enc Try.prog Try.f7 false true false false) := by
  refine returnsInHanded_of_change_sized (C := Try.checked) own started (by kernel_rfl) Try.func7
    (ChangeSpec.witness6 (enc := enc) (C := Try.checked) false ⟨#[], #[.int .u64 0, .slice none 0 0, .int .i64 0], []⟩ 8 (by kernel_rfl) (by kernel_rfl) (by kernel_rfl) (by kernel_rfl)) ?_
  intro W base args ds gs before hval0 hW hcnd hsz0 _
  have hval : ∀ (j : Nat) t v, Try.f7.params[j]? = some t → args[j]? = some v → Value.okWide Try.prog W .any base t v := hval0
  have hW' := hW
  obtain ⟨p, q, hA0, hV, rfl, hfz, hnd⟩ := hW
  have hA : DataW.TrodAll enc Try.prog W 0 (fun _ => true) true Try.f7.params.toList args.toList ds p := hA0
  have hsz : (DataW.weightsEach Try.prog (Try.f7.params.toList ++ Rows.wireCutsSpec.plain.varTypes Try.prog) (ds ++ gs)).all (· ≤ reachBytes) = true := hsz0
  rw [Try.params7] at hA hval hsz
  obtain ⟨v0, vs0, d0, ds0, p0, q0, hargs, rfl, rfl, h0, r0⟩ := trodAll_cons hA
  obtain ⟨v1, vs1, d1, ds1, p1, q1, rfl, rfl, rfl, h1, r1⟩ := trodAll_cons r0
  obtain ⟨v2, vs2, d2, ds2, p2, q2, rfl, rfl, rfl, h2, r2⟩ := trodAll_cons r1
  obtain ⟨rfl, rfl, rfl⟩ := trodAll_nil r2
  obtain rfl : args = #[v0, v1, v2] := by cases args; simp_all
  obtain ⟨rfl, rfl⟩ := trodVars_none hV
  obtain ⟨a0, rfl, rfl, rfl, w0⟩ := open_int Try.underlying22 (hval 0 22 v0 rfl rfl) h0
  have k1 := h1
  have lt1 : ∀ x ∈ p1, x.block < W.heap.size := by obtain ⟨m, hm⟩ := k1; exact DataW.trod_lt m _ _ _ hm
  obtain ⟨a1, len1, cap1, l1, rfl, w1⟩ := open_bss (hval 1 23 v1 rfl rfl) h1
  obtain ⟨a2, rfl, rfl, rfl, w2⟩ := open_int Try.underlying3 (hval 2 3 v2 rfl rfl) h2
  clear hA0 hval0
  refine (walk W a0 w0 a1 len1 cap1 l1 w1 a2 w2).mono fun e W' ⟨he, bel⟩ => ?_
  subst he
  exact ⟨_, rfl, _, _, _, [], _, [], hW', trodAll_mk1 (shut_bool Try.underlying4 _), (trodAll_cons_mk (shut_int Try.underlying22 w0) (trodAll_cons_mk (Below.trod laidOut (by kernel_rfl) (of_decide_eq_true (by kernel_rfl)) k1 bel lt1) (trodAll_cons_mk (shut_int Try.underlying3 w2) trodAll_mk0))), rfl, bel.frame _, fun h => by cases h⟩
theorem over : Rows.wireCutsRow.holds Try.pinned (OpenSpec.ofChange Rows.wireCutsSpec) :=
  OpenClaim.holds_of_wide 7 Try.f7 rfl rfl rfl rfl rfl rfl rfl ⟨rfl, rfl, rfl, rfl, rfl⟩ rfl rfl rfl rfl rfl (by kernel_rfl) Try.func7 (by kernel_rfl)
    (of_decide_eq_true (by kernel_rfl)) (by unfold Func.isWrapper; first | (rw [if_pos (by decide +kernel)]; kernel_rfl) | (rw [if_neg (by decide +kernel)]; exact ⟨rfl, rfl⟩))
    (fun os started H enc _ => lifted os started H enc)
theorem wireCuts_holds : Rows.WireCutsSaid := over
#print axioms wireCuts_holds
end Go.Proofs.Ytjifahocfbbicaa.wireCuts
