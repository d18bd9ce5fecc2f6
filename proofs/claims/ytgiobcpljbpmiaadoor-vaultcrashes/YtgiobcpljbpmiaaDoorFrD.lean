/-
  What the program scans of frames.
-/
import Derived.Test.YtgiobcpljbpmiaaDoorFrC
namespace Go.Proofs.YtgiobcpljbpmiaaDoor
open Go.RowKit
theorem Byte_none (g b : Nat) (w : World) (h : Rdr w 123 g b 0 []) : Calls Tryd.prog 79 #[.pointer (some ⟨g, 0, none⟩)] w fun e w' => e = .returned (.int .u8 0) ∧ Rdr w' 123 g b 40 [] ∧ Only g w w' :=
  (Byte_any g b 0 [] w h).mono fun _ _ h => h
theorem Byte_some (g b : Nat) (x : UInt8) (r : List UInt8) (w : World) (h : Rdr w 123 g b 0 (x :: r)) : Calls Tryd.prog 79 #[.pointer (some ⟨g, 0, none⟩)] w fun e w' => e = .returned (.int .u8 (x.toNat : Int)) ∧ Rdr w' 123 g b 0 r ∧ Only g w w' := by
  have h1 := Byte_any g b 0 (x :: r) w h
  have e : sFill 0 (x :: r) 1 = (0, [x], 1) := by
    unfold sFill
    rw [if_pos rfl, if_neg (by simp)]
    rfl
  rw [e] at h1
  exact h1.mono fun _ _ h => h
theorem Err_r (g b : Nat) (E : Int) (l : List UInt8) (w : World) (h : Rdr w 123 g b E l) : Calls Tryd.prog 76 #[.pointer (some ⟨g, 0, none⟩)] w fun e w' => e = .returned (.int .i64 E) ∧ w = w' := by
  obtain ⟨A, n, c, hr, _⟩ := h; exact Err_any g _ E w hr
theorem run_index8 (l : List UInt8) (k : Nat) (hk : k < 8) (x : UInt8) (hx : l[k]? = some x) (w : World) : (Instr.index 119 (.agg (bcells l)) (.int .i64 (k : Int))).run Tryd.prog w = .ok (.int .u8 (x.toNat : Int)) w := by
  have hp := run_part_plain (P := Tryd.prog) (e := 5) (off := k) (xs := bcells l) (v := bcell x) w (by kernel_rfl) (by rw [bcells_get?, hx]; rfl)
  have hs : (sizeOf 5).run Tryd.prog w = .ok 1 w := size_of Tryd.byteTypes w
  simp [Instr.index, asIntOf, run_underlying Tryd.under41', hs, hp, hk]
  rfl
set_option maxRecDepth 100000 in
set_option maxHeartbeats 4000000 in
theorem Scan_any (A : Option Addr) (n c : Nat) (l : List UInt8) (w : World) (hB : Bs w A n l) (hnc : n ≤ c) (hn : n ≤ 1048576) (hT : Tab 2 w) : Calls Tryd.prog 64 #[.slice A n c] w (ScanE w l) := by
  have HL := Lib.hid hB.1
  have HB := Lib.hid hB
  have HT := Lib.hid hT
  have HRd := Lib.hid (Read_any A n c l w hB (by omega))
  unfold NewRdr at HRd
  clear hB hT
  go_enter Tryd.func64, Tryd.ntmps64
  go_wp2_with fail
  go_step3
  go_wp2_with (go_at_call 65; refine HRd.out.mono ?_; rintro e1 wb ⟨g, bb, rfl, hg, hbb, hr1, hb1⟩; have HR1 := Lib.hid hr1; have hgl := hr1.lt; have HBl := Lib.hid (fun h => hr1.blt h); have hs1 := hb1.size; clear hr1)
  go_step3
  go_wp2_with fail
  go_loopw [5, 6] (fun o i wr => ∃ (k s : Nat) (A1 : Option Addr) (c1 : Nat) (acc : List (List UInt8)), i = .int .i64 (s : Int) ∧ o = .slice A1 k c1 ∧ k ≤ s ∧ s ≤ n ∧ Below w.heap.size w wr ∧ wb.heap.size ≤ wr.heap.size ∧ Hid (Rdr wr 123 g bb 0 (l.drop s)) ∧ Hid (OwnL wr wb.heap.size (.slice A1 k c1) k acc) ∧ Hid (PartF l acc s)) (fun _ i _ => n - (intOf i).toNat)
  case atStart => exact ⟨0, 0, none, 0, [], rfl, rfl, Nat.le_refl _, Nat.zero_le _, hb1, Nat.le_refl _, HR1, Lib.hid (OwnL.nil _ _), Lib.hid (PartF.nil l)⟩
  case round =>
    obtain ⟨k, s, A1, c1, acc, rfl, rfl, hks, hsn, hbel, hws, HR, HO, HP⟩ := hrel
    have HX := Lib.hid (RText_any g bb 0 (l.drop s) 262144 wr HR.out (by rw [List.length_drop, HL.out]; omega) (by omega))
    have hsz := rdText_size (l.drop s) 262144
    obtain ⟨E, T, S, hq⟩ := triple (rdText (l.drop s) 262144)
    have HErr := Lib.hid (rdFr_err (l.drop s) E T S hq)
    have HSh := Lib.hid (rdFr_short (l.drop s) E T S hq)
    have HByte := Lib.hid (fun k => rdFr_byte (l.drop s) E T S k hq)
    have HAll := Lib.hid (rdFr_all (l.drop s) E T S hq)
    rw [hq, List.length_drop, HL.out] at hsz
    simp only at hsz
    have hs0 : sText 0 (l.drop s) 262144 = (E, T, S) := by unfold sText; rw [if_pos rfl, hq]
    rw [hs0] at HX
    unfold RText at HX
    simp only at HX
    obtain ⟨m, hm⟩ : ∃ m, T.length = m := ⟨_, rfl⟩
    have HM := Lib.hid hm
    rw [hm] at HX
    clear hq hs0 hm
    by_cases hE : E = 0
    · subst hE
      have HLf := Lib.hid (show ((l.drop s).drop S).length = n - s - S by rw [List.length_drop, List.length_drop, HL.out])
      have HLft := Lib.hid (fun w h => show Calls Tryd.prog 77 #[.pointer (some ⟨g, 0, none⟩)] w fun e w' => e = .returned (.int .i64 ((n - s - S : Nat) : Int)) ∧ w = w' by rw [← HLf.out]; exact Left_any g bb 0 ((l.drop s).drop S) w h)
      have hsub : (n : Int) - ((n - s - S : Nat) : Int) = ((s + S : Nat) : Int) := by omega
      have hsS : s + S - s = S := by omega
      have HSm := Lib.hid (fun A c w hB hc hT => sumOf_any A S c ((l.drop s).take S) w hB hc hT (by omega))
      have HLds := Lib.hid (show (l.drop s).length = n - s by rw [List.length_drop, HL.out])
      have HR8 := Lib.hid (show sum8 ((l.drop s).take S) = (sumL ((l.drop s).take S)).take 8 from rfl)
      have HR8l := Lib.hid (sum8_length ((l.drop s).take S))
      obtain ⟨M, hM⟩ : ∃ M, (l.drop s).drop S = M := ⟨_, rfl⟩
      have HMd := Lib.hid (show ∀ q, M.drop q = l.drop (s + (S + q)) from fun q => by rw [← hM, List.drop_drop, List.drop_drop])
      rw [hM] at HX HLf HLft HByte HAll
      generalize sumL ((l.drop s).take S) = R at *
      generalize sum8 ((l.drop s).take S) = R8 at *
      clear HErr HR hM
      go_wp2_with (first
        | (go_at_call 67; refine HX.out.mono ?_; rintro e2 w2 ⟨A2, c2, rfl, hc2, ho2, hr2, hon2⟩; have HR2 := Lib.hid hr2; have HO2 := Lib.hid (HO.out.only hon2 hgl); have hb2 := hbel.trans (hon2.below hg hbel.size); have hs2 := hon2.size; clear hr2)
        | (go_at_call 76; refine (Err_r g bb 0 _ w2 HR2.out).mono ?_; rintro e3 w3 ⟨rfl, rfl⟩)
        | (go_at_call 77; refine (HLft.out w2 HR2.out).mono ?_; rintro e3 w3 ⟨rfl, rfl⟩)
        | ((with_reducible refine wpList_mid Tryd.byteTypes rfl (.tmp 19) (.tmp 20) (.tmp 25) rfl A n c s (s + S) rfl rfl _ rfl (by omega) (by omega) (by omega) hnc ?_); intro A3 hA3; rw [hsS] at *)
        | (go_at_call 78; refine (HSm.out A3 (c - s) w2 (hA3 _ _ (HB.out.below hb2)) (by omega) (HT.out.below hb2)).mono ?_; rintro e4 w4 ⟨rfl, hb4⟩; have hs4 := hb4.size; have HR4 := Lib.hid (HR2.out.below hb4); have HO4 := Lib.hid (HO2.out.below hb4); have HT4 := Lib.hid ((ho2.mono hws).belowS hb4)))
      have hs5 : wb.heap.size ≤ w4.heap.size := by omega
      have hb5 := hb2.trans (hb4.mono hb2.size)
      clear HX HLft HSm hA3 hb4 ho2 HR2 HO2 hon2 HO hbel hb2
      go_loopw [29] (fun z wr => ∃ q, q ≤ 8 ∧ z = .int .i64 ((q : Nat) : Int) ∧ Below w.heap.size w wr ∧ wb.heap.size ≤ wr.heap.size ∧ Hid (Rdr wr 123 g bb 0 (M.drop q)) ∧ Hid (OwnL wr wb.heap.size (.slice A1 k c1) k acc) ∧ Hid (Own wr wb.heap.size 5 (.slice A2 m c2) m T) ∧ Hid (∀ j, j < q → M[j]? = R[j]?)) (fun z _ => 8 - (intOf z).toNat)
      case atStart => exact ⟨0, Nat.zero_le _, rfl, hb5, hs5, HR4, HO4, HT4, Lib.hid (fun j h => by omega)⟩
      case round =>
        obtain ⟨q, hq8, rfl, hbq, hsq, HRq, HOq, HTq, HJ⟩ := hrel
        clear hb5 hs5 HR4 HO4 HT4
        by_cases hq : q < 8
        · have hqi : (q : Int) < 8 := by omega
          obtain ⟨y, hy⟩ : ∃ y, R8[q]? = some y := ⟨_, List.getElem?_eq_getElem (by rw [HR8l.out]; exact hq)⟩
          have hix := fun w => run_index8 R8 q hq y hy w
          have HRy := Lib.hid (show R[q]? = some y by rw [HR8.out, List.getElem?_take, if_pos hq] at hy; exact hy)
          clear hy
          cases hx : M[q]? with
          | none =>
            have hml := List.getElem?_eq_none_iff.1 hx
            have HN := Lib.hid (show Scans l acc s from ⟨HP.out, by rw [HSh.out (by rw [HLds.out]; have := HLf.out; omega)]⟩)
            have HB1 := Lib.hid (fun w h => Byte_none g bb w h)
            rw [List.drop_of_length_le hml] at HRq
            clear hml hx HSh HByte HAll HJ
            go_wp2_with (first
              | (go_at_call 79; refine (HB1.out _ HRq.out).mono ?_; rintro e5 w5 ⟨rfl, hr5, hon5⟩; have HR5 := Lib.hid hr5; clear hr5)
              | (go_at_call 76; refine (Err_r g bb 40 _ w5 HR5.out).mono ?_; rintro e6 w6 ⟨rfl, rfl⟩))
            rw [Exit.noGoto_ret]
            go_ret2
            exact ⟨acc, k, s, A1, c1, rfl, HN.out, (HOq.out.only hon5 hgl).mono hs1, hbq.trans (hon5.below hg hbq.size)⟩
          | some x =>
            have hlt : q < M.length := (List.getElem?_eq_some_iff.1 hx).1
            have hdr : M.drop q = x :: M.drop (q + 1) := by rw [List.drop_eq_getElem_cons hlt, (List.getElem?_eq_some_iff.1 hx).2]
            rw [hdr] at HRq
            have HB1 := Lib.hid (fun w h => Byte_some g bb x (M.drop (q + 1)) w h)
            by_cases hxy : x = y
            · subst hxy
              have HJ2 := Lib.hid (show ∀ j, j < q + 1 → M[j]? = R[j]? from fun j hj => by
                rcases Nat.lt_or_ge j q with h | h
                · exact HJ.out j h
                · obtain rfl : j = q := by omega
                  rw [hx, HRy.out])
              have hne : ((x.toNat : Int) != (x.toNat : Int)) = false := by simp
              clear hx hdr hlt HSh HByte HAll HJ
              go_wp2_with (first
                | (go_at_call 79; refine (HB1.out _ HRq.out).mono ?_; rintro e5 w5 ⟨rfl, hr5, hon5⟩; have HR5 := Lib.hid hr5; clear hr5)
                | (go_at_call 76; refine (Err_r g bb 0 _ w5 HR5.out).mono ?_; rintro e6 w6 ⟨rfl, rfl⟩))
              go_roundw
              case rel => exact ⟨q + 1, by omega, by go_num, hbq.trans (hon5.below hg hbq.size), Nat.le_trans hsq hon5.size, HR5, Lib.hid (HOq.out.only hon5 hgl), Lib.hid (own_only HTq.out hon5 hgl), HJ2⟩
              case measure => simp [intOf]; omega
            · have hne : ((x.toNat : Int) != (y.toNat : Int)) = true := by
                simp only [bne_iff_ne, ne_eq]
                intro e
                exact hxy (UInt8.toNat_inj.1 (by omega))
              have HN := Lib.hid (show Scans l acc s from ⟨HP.out, by rw [HByte.out q hq (by rw [hx, HRy.out]; intro e; injection e with e; exact hxy e)]⟩)
              clear hx hdr hlt HSh HByte HAll HJ hxy
              go_wp2_with (first
                | (go_at_call 79; refine (HB1.out _ HRq.out).mono ?_; rintro e5 w5 ⟨rfl, hr5, hon5⟩; have HR5 := Lib.hid hr5; clear hr5)
                | (go_at_call 76; refine (Err_r g bb 0 _ w5 HR5.out).mono ?_; rintro e6 w6 ⟨rfl, rfl⟩))
              rw [Exit.noGoto_ret]
              go_ret2
              exact ⟨acc, k, s, A1, c1, rfl, HN.out, (HOq.out.only hon5 hgl).mono hs1, hbq.trans (hon5.below hg hbq.size)⟩
        · obtain rfl : q = 8 := by omega
          have h8 : 8 ≤ M.length := by
            have h1 := HJ.out 7 (by omega)
            have h2 : R[7]? ≠ none := by
              have : R8[7]? ≠ none := by rw [ne_eq, List.getElem?_eq_none_iff, HR8l.out]; omega
              rw [HR8.out, List.getElem?_take, if_pos (by omega)] at this
              exact this
            rw [← h1, ne_eq, List.getElem?_eq_none_iff] at h2
            omega
          have hfit : s + (S + 8) ≤ n := by have := HLf.out; omega
          have HPs := Lib.hid (HP.out.step T (S + 8) (HAll.out trivial (by rw [HLds.out]; omega) (fun j hj => HJ.out j hj)))
          have HM8 := Lib.hid (show ∀ h : M.drop 8 ≠ [], bb < wb.heap.size from fun h => HBl.out (fun h0 => h (by rw [HMd.out 8, h0, List.drop_nil])))
          have HTm := Lib.hid (show Own wr wb.heap.size 5 (.slice A2 m c2) T.length T by rw [HM.out]; exact HTq.out)
          rw [HMd.out 8] at HRq HM8
          clear h8 HSh HByte HAll HJ HTq HLds HLf
          go_wp2_with (at_builtin; refine wpList_appT rfl (.tmp 43) (.tmp 45) rfl wb.heap.size (.slice A1 k c1) k acc rfl HOq.out (.slice A2 m c2) T HTm.out (by omega) hsq rfl ?_; intro A4 c4 w5 ho4 hb4)
          go_roundw
          case rel => exact ⟨k + 1, s + (S + 8), A4, c4, _, by go_num, rfl, by omega, by omega, hbq.trans (hb4.mono hs1), Nat.le_trans hsq hb4.size, Lib.hid (HRq.out.belowB hb4 hgl HM8.out), Lib.hid ho4, HPs⟩
          case measure => simp [intOf]; omega
    · have HN := Lib.hid (show Scans l acc s from ⟨HP.out, by rw [HErr.out hE]⟩)
      have hE2 := bne0 hE
      clear HErr HSh HByte HAll HR
      go_wp2_with (first
        | (go_at_call 67; refine HX.out.mono ?_; rintro e2 w2 ⟨A2, c2, rfl, hc2, ho2, hr2, hon2⟩; have HR2 := Lib.hid hr2; clear hr2)
        | (go_at_call 76; refine (Err_r g bb E _ w2 HR2.out).mono ?_; rintro e3 w3 ⟨rfl, rfl⟩))
      rw [Exit.noGoto_ret]
      go_ret2
      exact ⟨acc, k, s, A1, c1, rfl, HN.out, (HO.out.only hon2 hgl).mono hs1, hbel.trans (hon2.below hg hbel.size)⟩
end Go.Proofs.YtgiobcpljbpmiaaDoor
