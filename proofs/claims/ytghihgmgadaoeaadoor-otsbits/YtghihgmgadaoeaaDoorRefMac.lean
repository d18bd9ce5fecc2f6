/-
  What the document's own Bytes and Mac (juratref03) answer: the bytes of a digest, the mac.
-/
import Derived.Test.YtghihgmgadaoeaaDoorTwo
import Derived.Test.YtghihgmgadaoeaaDoorRound
import Derived.Test.YtghihgmgadaoeaaDoorText
import Derived.Test.YtghihgmgadaoeaaDoorRefJoin
namespace Go.Proofs.YtghihgmgadaoeaaDoor
open Go.RowKit
theorem take_getD (d : List UInt8) (k : Nat) (h : k < d.length) : d.take k ++ [d.getD k 0] = d.take (k + 1) := by
  rw [List.take_add_one, List.getElem?_eq_getElem h, List.getD_eq_getElem?_getD, List.getElem?_eq_getElem h]; rfl
set_option maxRecDepth 100000 in
set_option maxHeartbeats 1000000 in
theorem DBytes_any (d : List UInt8) (w : World) (hd : d.length = 32) : Calls Tryd.prog 22 #[.agg (bcells d)] w (NewSlice w 5 d) := by
  have HD := Lib.hid hd
  clear hd
  go_enter Tryd.func22, Tryd.ntmps22
  go_wp2_with fail
  go_loopw [3, 4] (fun t i wr => ∃ (k : Nat) (A : Option Addr) (c : Nat), k ≤ 32 ∧ i = .int .i64 (k : Int) ∧ t = .slice A k c ∧ Below w.heap.size w wr ∧ Row wr w.heap.size 23 (bcells d) ∧ Own wr (w.heap.size + 1) 5 (.slice A k c) k (d.take k)) (fun _ i _ => 32 - (intOf i).toNat)
  case atStart => exact ⟨0, none, 0, Nat.zero_le _, rfl, rfl, (Below.refl _ _).alloc (Nat.le_refl _) _, Row.new _ _ _, Own.nil _ _ _⟩
  case round =>
    obtain ⟨k, A, c, hk, rfl, rfl, hbel, hr, ho⟩ := hrel
    have hbs := hbel.size
    have hr1 := hr.lt
    have HO := Lib.hid ho
    have HR := Lib.hid hr
    by_cases hlt : k < 32
    · have i0 : (0 : Int) ≤ (k : Int) := by omega
      have i1 : (k : Int) < 32 := by omega
      obtain ⟨X, hX⟩ : ∃ X, d.getD k 0 = X := ⟨_, rfl⟩
      have x1 : wr.cell? ⟨w.heap.size, k, none⟩ = some (.int .u8 (X.toNat : Int)) := by
        rw [hr.cell k, bcells_get _ _ (by rw [HD.out]; exact hlt), hX]
      have HX := Lib.hid hX
      clear hr ho hX
      go_wp2_with (at_builtin; refine wpList_app Tryd.byteTypes rfl (.tmp 9) (.tmp 13) rfl (w.heap.size + 1) _ k (d.take k) rfl (own_below HO.out ((Below.refl _ _).alloc (Nat.le_refl _) _)) _ 1 1 [X] rfl (one_of wr X 5).bs (by omega) (by simp; omega) ?_; intro A3 c3 w3 ho3 hb3 _)
      refine ⟨⟨k + 1, A3, c3, by omega, by go_num, rfl, ?_, ?_, ?_⟩, by simp [intOf]; omega⟩
      · exact (hbel.alloc hbs _).trans (hb3.mono (by omega))
      · exact (HR.out.alloc _).below hb3 (by omega)
      · rw [← take_getD d k (by rw [HD.out]; exact hlt), HX.out]; exact ho3
    · obtain rfl : k = 32 := by omega
      rw [List.take_of_length_le (by rw [HD.out]; exact Nat.le_refl _)] at HO
      clear hr ho
      go_wp2_with fail
      go_ret
      obtain ⟨A4, c4, e4, hc4⟩ := HO.out.form
      injection e4 with e5 e6 e7
      subst e5 e7
      exact ⟨_, _, _, rfl, HO.out.bs, hc4, hbel, HO.out.mono (by omega)⟩
theorem padTo_getD (k : List UInt8) (j : Nat) : (padTo k).getD j 0 = k.getD j 0 := by
  unfold padTo
  rw [List.getD_eq_getElem?_getD, List.getD_eq_getElem?_getD]
  by_cases h : j < k.length
  · rw [List.getElem?_append_left h]
  · rw [List.getElem?_append_right (by omega), List.getElem?_eq_none (l := k) (by omega), List.getElem?_replicate]
    split <;> rfl
theorem mask_take (m : UInt8) (k : List UInt8) (j : Nat) (h : j < k.length) : maskL m (k.take (j + 1)) = maskL m (k.take j) ++ [k.getD j 0 ^^^ m] := by
  unfold maskL
  rw [← take_getD k j h, List.map_append]; rfl
theorem mask_all (m : UInt8) (k : List UInt8) (h : k.length = 64) : maskL m (k.take 64) = maskL m k := by rw [List.take_of_length_le (by omega)]
set_option maxRecDepth 100000 in
set_option maxHeartbeats 1000000 in
theorem RefMac_any (A B : Option Addr) (n m c d : Nat) (k l : List UInt8) (w : World) (hA : Bs w A n k) (hB : Bs w B m l) (hnc : n ≤ c) (hF : First w) (hT : Tab 1 w) (hn : n ≤ 1000000) (hm : m ≤ 900000) :
    Calls Tryd.prog 49 #[.slice A n c, .slice B m d] w fun e w' => e = .returned (.agg (bcells (macL k l))) ∧ Below w.heap.size w w' := by
  have hb0 := (Below.refl w.heap.size w).alloc (Nat.le_refl _) (.cells lit32 23)
  have HSum := Lib.hid (RefSum_any A n c k _ (hA.below hb0) hnc (hF.below hb0) (hT.below hb0) hn)
  have HS := Lib.hid (show (bcells (macL k l)).size = 32 by rw [bcells_size, macL_length])
  have HA := Lib.hid (hA.below hb0)
  have HB := Lib.hid hB
  have HF := Lib.hid hF
  have HT := Lib.hid hT
  have hlk := hA.1
  have hll := hB.1
  have HR : Hid (macL k l = macB (padTo (keyL k)) l) := Lib.hid rfl
  have hKl := keyL_length k
  have HK : Hid (keyL k = if 64 < k.length then sumL k else k) := Lib.hid rfl
  have HSL := Lib.hid (sumL_length k)
  generalize sumL k = S at *
  generalize keyL k = KL at *
  generalize macL k l = R at *
  have HPL := Lib.hid (padTo_length KL hKl)
  clear hA hB hF hT
  by_cases h64 : 64 < n
  · have i64 : 64 < (n : Int) := by omega
    have hK : KL = S := by rw [HK.out, if_pos (by omega)]
    subst hK
    clear HK
    go_enter Tryd.func49, Tryd.ntmps49
    go_wp2_with (first
      | (go_at_call 23; refine HSum.out.mono ?_; rintro e1 w0 ⟨rfl, hb00⟩; have hs00 := hb00.size)
      | (go_at_call 22; refine (DBytes_any KL w0 HSL.out).mono ?_; rintro e1 w1 ⟨A1, n1, c1, rfl, hB1, hc1, hb01, -⟩; have HB1 := Lib.hid hB1; have hn1 := hB1.1; have HZ1 := Lib.hid (((Row.new w 23 lit32).below hb00 (by simp)).below hb01 (by simp at hs00; omega)); have hb1 : Below w.heap.size w w1 := (hb0.trans (hb00.mono (by simp))).trans (hb01.mono (by simp at hs00; omega)); clear hB1))
    clear HA HSum
    have HBt := Lib.hid (HB.out.below hb1)
    have HFt := Lib.hid (HF.out.below hb1)
    have HTt := Lib.hid (HT.out.below hb1)
    have hs1 := hb1.size
    have hz1 := HZ1.out.lt
    clear HB HF HT
    go_loopw [5, 6, 7] (fun t5 t6 i wr => ∃ (j : Nat) (A5 : Option Addr) (c5 : Nat) (A6 : Option Addr) (c6 : Nat), j ≤ 64 ∧ i = .int .i64 (j : Int) ∧ t5 = .slice A5 j c5 ∧ t6 = .slice A6 j c6 ∧ Below w1.heap.size w1 wr ∧ Own wr w1.heap.size 5 (.slice A5 j c5) j (maskL 54 ((padTo KL).take j)) ∧ Own wr w1.heap.size 5 (.slice A6 j c6) j (maskL 92 ((padTo KL).take j)) ∧ Sep (.slice A6 j c6) (.slice A5 j c5)) (fun _ _ i _ => 64 - (intOf i).toNat)
    case atStart => exact ⟨0, none, 0, none, 0, Nat.zero_le _, rfl, rfl, rfl, Below.refl _ _, Own.nil _ _ _, Own.nil _ _ _, Sep.nil _⟩
    case round =>
      obtain ⟨j, A5, c5, A6, c6, hj, rfl, rfl, rfl, hbel, ho5, ho6, hsep⟩ := hrel
      have hbs := hbel.size
      have HSep := Lib.hid hsep
      by_cases hlt : j < 64
      · obtain ⟨X, hX⟩ : ∃ X, (padTo KL).getD j 0 = X := ⟨_, rfl⟩
        have e54 := mask_take 54 (padTo KL) j (by rw [HPL.out]; exact hlt)
        have e92 := mask_take 92 (padTo KL) j (by rw [HPL.out]; exact hlt)
        rw [hX] at e54 e92
        have x54 : bits .xor .u8 (X.toNat : Int) 54 = ((X ^^^ 54).toNat : Int) := u8_xor X 54
        have x92 : bits .xor .u8 (X.toNat : Int) 92 = ((X ^^^ 92).toNat : Int) := u8_xor X 92
        rw [padTo_getD] at hX
        have E54 := Lib.hid e54
        have E92 := Lib.hid e92
        obtain ⟨Y5, hY5⟩ : ∃ Y, X ^^^ 54 = Y := ⟨_, rfl⟩
        obtain ⟨Y6, hY6⟩ : ∃ Y, X ^^^ 92 = Y := ⟨_, rfl⟩
        rw [hY5] at E54 x54
        rw [hY6] at E92 x92
        have HO5 := Lib.hid ho5
        have HO6 := Lib.hid ho6
        clear ho5 ho6 e54 e92 hY5 hY6
        generalize maskL 54 ((padTo KL).take j) = L5 at HO5 E54
        generalize maskL 92 ((padTo KL).take j) = L6 at HO6 E92
        have HX := Lib.hid hX
        have HBk := Lib.hid (HB1.out.below hbel)
        clear hX hsep
        by_cases hjn : j < n1
        · have i0 : (0 : Int) ≤ (j : Int) := by omega
          have i1 : (j : Int) < (n1 : Int) := by omega
          have i2 : (j : Int) < 64 := by omega
          obtain ⟨b, off, x, hAe, hblt, hx, hcx⟩ := HBk.out.get hjn
          have hxX : x = X := by
            have h := HX.out
            rw [List.getD_eq_getElem?_getD, hx] at h
            exact h
          subst hAe
          subst hxX
          clear hx
          go_wp2_with (first
            | (at_builtin; refine wpList_app2 Tryd.byteTypes rfl (.tmp 27) (.tmp 30) rfl w1.heap.size _ j L5 rfl (own_below HO5.out ((Below.refl _ _).alloc (Nat.le_refl _) _)) (.slice A6 j c6) j L6 (own_below HO6.out ((Below.refl _ _).alloc (Nat.le_refl _) _)) HSep.out _ _ 1 1 [Y5] rfl (one_of wr Y5 5).bs (by omega) (by simp; omega) ?_; intro A7 c7 w7 ho7 ho6 hsep7 hb7; have HO7 := Lib.hid ho7; have HO67 := Lib.hid ho6; have HS7 := Lib.hid hsep7; have hs7 := hb7.size; clear ho7 ho6 hsep7)
            | (at_builtin; refine wpList_app2 Tryd.byteTypes rfl (.tmp 32) (.tmp 35) rfl w1.heap.size _ j L6 rfl (own_below HO67.out ((Below.refl _ _).alloc (Nat.le_refl _) _)) (.slice A7 (j + 1) c7) (j + 1) (L5 ++ [Y5]) (own_below HO7.out ((Below.refl _ _).alloc (Nat.le_refl _) _)) HS7.out.symm _ _ 1 1 [Y6] rfl (one_of w7 Y6 5).bs (by omega) (by simp at hs7; simp; omega) ?_; intro A8 c8 w8 ho8 ho7 hsep8 hb8))
          refine ⟨⟨j + 1, A7, c7, A8, c8, by omega, by go_num, rfl, rfl, ?_, by rw [E54.out]; exact ho7, by rw [E92.out]; exact ho8, hsep8.symm⟩, by simp [intOf]; omega⟩
          exact (((hbel.alloc hbs _).trans hb7).alloc (Nat.le_trans hbs (by simp at hs7; omega)) _).trans hb8
        · have i1 : ¬ (j : Int) < (n1 : Int) := by omega
          have i2 : (j : Int) < 64 := by omega
          have hxX : X = 0 := by
            have h := HX.out
            rw [List.getD_eq_getElem?_getD, List.getElem?_eq_none (by omega)] at h
            exact h.symm
          subst hxX
          have y54 : bits .xor .u8 0 54 = (Y5.toNat : Int) := x54
          have y92 : bits .xor .u8 0 92 = (Y6.toNat : Int) := x92
          clear x54 x92
          go_wp2_with (first
            | (at_builtin; refine wpList_app2 Tryd.byteTypes rfl (.tmp 27) (.tmp 30) rfl w1.heap.size _ j L5 rfl (own_below HO5.out ((Below.refl _ _).alloc (Nat.le_refl _) _)) (.slice A6 j c6) j L6 (own_below HO6.out ((Below.refl _ _).alloc (Nat.le_refl _) _)) HSep.out _ _ 1 1 [Y5] rfl (one_of wr Y5 5).bs (by omega) (by simp; omega) ?_; intro A7 c7 w7 ho7 ho6 hsep7 hb7; have HO7 := Lib.hid ho7; have HO67 := Lib.hid ho6; have HS7 := Lib.hid hsep7; have hs7 := hb7.size; clear ho7 ho6 hsep7)
            | (at_builtin; refine wpList_app2 Tryd.byteTypes rfl (.tmp 32) (.tmp 35) rfl w1.heap.size _ j L6 rfl (own_below HO67.out ((Below.refl _ _).alloc (Nat.le_refl _) _)) (.slice A7 (j + 1) c7) (j + 1) (L5 ++ [Y5]) (own_below HO7.out ((Below.refl _ _).alloc (Nat.le_refl _) _)) HS7.out.symm _ _ 1 1 [Y6] rfl (one_of w7 Y6 5).bs (by omega) (by simp at hs7; simp; omega) ?_; intro A8 c8 w8 ho8 ho7 hsep8 hb8))
          refine ⟨⟨j + 1, A7, c7, A8, c8, by omega, by go_num, rfl, rfl, ?_, by rw [E54.out]; exact ho7, by rw [E92.out]; exact ho8, hsep8.symm⟩, by simp [intOf]; omega⟩
          exact (((hbel.alloc hbs _).trans hb7).alloc (Nat.le_trans hbs (by simp at hs7; omega)) _).trans hb8
      · obtain rfl : j = 64 := by omega
        rw [mask_all 54 (padTo KL) HPL.out] at ho5
        rw [mask_all 92 (padTo KL) HPL.out] at ho6
        have HR2 : Hid (R = sumL (maskL 92 (padTo KL) ++ sumL (maskL 54 (padTo KL) ++ l))) := HR
        have HB5 := Lib.hid ho5.bs
        have HB6 := Lib.hid ho6.bs
        clear ho5 ho6
        have hl5 := HB5.out.1
        have hl6 := HB6.out.1
        have HS1 := Lib.hid (fun A n c w hB hnc hF hT hn => RefSum_any A n c (maskL 54 (padTo KL) ++ l) w hB hnc hF hT hn)
        have HD1 := Lib.hid (sumL_length (maskL 54 (padTo KL) ++ l))
        generalize maskL 54 (padTo KL) = L5 at *
        generalize maskL 92 (padTo KL) = L6 at *
        generalize sumL (L5 ++ l) = D at *
        have HS2 := Lib.hid (fun A n c w hB hnc hF hT hn => RefSum_any A n c (L6 ++ D) w hB hnc hF hT hn)
        rw [← HR2.out] at HS2
        have HBr := Lib.hid (HBt.out.below hbel)
        have HFr := Lib.hid (HFt.out.below hbel)
        have HTr := Lib.hid (HTt.out.below hbel)
        have HZr := Lib.hid (HZ1.out.below hbel hz1)
        clear HBt HFt HTt HR HR2 hsep
        go_wp2_with (first
          | (go_at_call_of 62 (Value.slice B m d); refine (RefJoin_any A5 B 64 m c5 d L5 l wr HB5.out HBr.out (by omega)).mono ?_; rintro e2 w2 ⟨A2, n2, c2, rfl, hB2, hc2, hb2, -⟩; have HB2 := Lib.hid hB2; have hl2 := hB2.1; have hs2 := hb2.size; rw [List.length_append, hl5, hll] at hl2; clear hB2)
          | (go_at_call_of 23 (Value.slice A2 n2 c2); refine (HS1.out _ _ _ w2 HB2.out hc2 (HFr.out.below hb2) (HTr.out.below hb2) (by omega)).mono ?_; rintro e3 w3 ⟨rfl, hb3⟩; have hs3 := hb3.size)
          | (go_at_call 22; refine (DBytes_any D w3 HD1.out).mono ?_; rintro e4 w4 ⟨A4, n4, c4, rfl, hB4, hc4, hb4, -⟩; have HB4 := Lib.hid hB4; have hl4 := hB4.1; rw [HD1.out] at hl4; have hs4 := hb4.size; have hb24 : Below wr.heap.size wr w4 := (hb2.trans (hb3.mono hs2)).trans (hb4.mono (by omega)); clear hB4)
          | (go_at_call 62; refine (RefJoin_any A6 A4 64 n4 c6 c4 L6 D w4 (HB6.out.below hb24) HB4.out (by omega)).mono ?_; rintro e5 w5 ⟨A5', n5, c5', rfl, hB5, hc5, hb5, -⟩; have HB5' := Lib.hid hB5; have hl5' := hB5.1; rw [List.length_append, hl6, HD1.out] at hl5'; have hs5 := hb5.size; have hb25 := hb24.trans (hb5.mono (by omega)); clear hB5)
          | (go_at_call 23; refine (HS2.out _ _ _ w5 HB5'.out hc5 (HFr.out.below hb25) (HTr.out.below hb25) (by omega)).mono ?_; rintro e6 w6 ⟨rfl, hb6⟩; have hs6 := hb6.size; have hb26 := hb25.trans (hb6.mono (by omega)); have HZ6 := Lib.hid (HZr.out.below hb26 (by omega)))
          | (with_reducible refine wpList_store_row Tryd.agg25 rfl (.tmp 4) (.tmp 44) rfl _ _ rfl rfl 23 lit32 HZ6.out HS.out lit32_size (bcells_one _) ?_; intro w9 hr9 ho9; have HR9 := Lib.hid hr9; clear hr9))
        refine bodyPost_ret (results_row1 Tryd.agg25 Tryd.results49 rfl HR9.out HS.out) rfl ⟨rfl, ?_⟩
        have b1 := hb1.trans (hbel.mono hs1)
        have b2 := b1.trans (hb26.mono (by omega))
        exact b2.trans (ho9.below (Nat.le_refl _) b2.size)
  · have i64 : ¬ 64 < (n : Int) := by omega
    have hK : KL = k := by rw [HK.out, if_neg (by omega)]
    subst hK
    clear HK HSum HSL
    obtain ⟨A1, rfl⟩ : ∃ A1, A1 = A := ⟨_, rfl⟩
    obtain ⟨n1, rfl⟩ : ∃ n1, n1 = n := ⟨_, rfl⟩
    have hn1 : KL.length = n1 := HA.out.1
    go_enter Tryd.func49, Tryd.ntmps49
    go_wp2_with fail
    have HZ1 := Lib.hid (Row.new w 23 lit32)
    obtain ⟨w1, hw1⟩ : ∃ w1, w.alloc (.cells lit32 23) = w1 := ⟨_, rfl⟩
    rw [hw1] at HZ1 HA
    rw [hw1]
    have hb1 : Below w.heap.size w w1 := by rw [← hw1]; exact hb0
    have HB1 := HA
    clear hw1 hb0 HA
    have HBt := Lib.hid (HB.out.below hb1)
    have HFt := Lib.hid (HF.out.below hb1)
    have HTt := Lib.hid (HT.out.below hb1)
    have hs1 := hb1.size
    have hz1 := HZ1.out.lt
    clear HB HF HT
    go_loopw [5, 6, 7] (fun t5 t6 i wr => ∃ (j : Nat) (A5 : Option Addr) (c5 : Nat) (A6 : Option Addr) (c6 : Nat), j ≤ 64 ∧ i = .int .i64 (j : Int) ∧ t5 = .slice A5 j c5 ∧ t6 = .slice A6 j c6 ∧ Below w1.heap.size w1 wr ∧ Own wr w1.heap.size 5 (.slice A5 j c5) j (maskL 54 ((padTo KL).take j)) ∧ Own wr w1.heap.size 5 (.slice A6 j c6) j (maskL 92 ((padTo KL).take j)) ∧ Sep (.slice A6 j c6) (.slice A5 j c5)) (fun _ _ i _ => 64 - (intOf i).toNat)
    case atStart => exact ⟨0, none, 0, none, 0, Nat.zero_le _, rfl, rfl, rfl, Below.refl _ _, Own.nil _ _ _, Own.nil _ _ _, Sep.nil _⟩
    case round =>
      obtain ⟨j, A5, c5, A6, c6, hj, rfl, rfl, rfl, hbel, ho5, ho6, hsep⟩ := hrel
      have hbs := hbel.size
      have HSep := Lib.hid hsep
      by_cases hlt : j < 64
      · obtain ⟨X, hX⟩ : ∃ X, (padTo KL).getD j 0 = X := ⟨_, rfl⟩
        have e54 := mask_take 54 (padTo KL) j (by rw [HPL.out]; exact hlt)
        have e92 := mask_take 92 (padTo KL) j (by rw [HPL.out]; exact hlt)
        rw [hX] at e54 e92
        have x54 : bits .xor .u8 (X.toNat : Int) 54 = ((X ^^^ 54).toNat : Int) := u8_xor X 54
        have x92 : bits .xor .u8 (X.toNat : Int) 92 = ((X ^^^ 92).toNat : Int) := u8_xor X 92
        rw [padTo_getD] at hX
        have E54 := Lib.hid e54
        have E92 := Lib.hid e92
        obtain ⟨Y5, hY5⟩ : ∃ Y, X ^^^ 54 = Y := ⟨_, rfl⟩
        obtain ⟨Y6, hY6⟩ : ∃ Y, X ^^^ 92 = Y := ⟨_, rfl⟩
        rw [hY5] at E54 x54
        rw [hY6] at E92 x92
        have HO5 := Lib.hid ho5
        have HO6 := Lib.hid ho6
        clear ho5 ho6 e54 e92 hY5 hY6
        generalize maskL 54 ((padTo KL).take j) = L5 at HO5 E54
        generalize maskL 92 ((padTo KL).take j) = L6 at HO6 E92
        have HX := Lib.hid hX
        have HBk := Lib.hid (HB1.out.below hbel)
        clear hX hsep
        by_cases hjn : j < n1
        · have i0 : (0 : Int) ≤ (j : Int) := by omega
          have i1 : (j : Int) < (n1 : Int) := by omega
          have i2 : (j : Int) < 64 := by omega
          obtain ⟨b, off, x, hAe, hblt, hx, hcx⟩ := HBk.out.get hjn
          have hxX : x = X := by
            have h := HX.out
            rw [List.getD_eq_getElem?_getD, hx] at h
            exact h
          subst hAe
          subst hxX
          clear hx
          go_wp2_with (first
            | (at_builtin; refine wpList_app2 Tryd.byteTypes rfl (.tmp 27) (.tmp 30) rfl w1.heap.size _ j L5 rfl (own_below HO5.out ((Below.refl _ _).alloc (Nat.le_refl _) _)) (.slice A6 j c6) j L6 (own_below HO6.out ((Below.refl _ _).alloc (Nat.le_refl _) _)) HSep.out _ _ 1 1 [Y5] rfl (one_of wr Y5 5).bs (by omega) (by simp; omega) ?_; intro A7 c7 w7 ho7 ho6 hsep7 hb7; have HO7 := Lib.hid ho7; have HO67 := Lib.hid ho6; have HS7 := Lib.hid hsep7; have hs7 := hb7.size; clear ho7 ho6 hsep7)
            | (at_builtin; refine wpList_app2 Tryd.byteTypes rfl (.tmp 32) (.tmp 35) rfl w1.heap.size _ j L6 rfl (own_below HO67.out ((Below.refl _ _).alloc (Nat.le_refl _) _)) (.slice A7 (j + 1) c7) (j + 1) (L5 ++ [Y5]) (own_below HO7.out ((Below.refl _ _).alloc (Nat.le_refl _) _)) HS7.out.symm _ _ 1 1 [Y6] rfl (one_of w7 Y6 5).bs (by omega) (by simp at hs7; simp; omega) ?_; intro A8 c8 w8 ho8 ho7 hsep8 hb8))
          refine ⟨⟨j + 1, A7, c7, A8, c8, by omega, by go_num, rfl, rfl, ?_, by rw [E54.out]; exact ho7, by rw [E92.out]; exact ho8, hsep8.symm⟩, by simp [intOf]; omega⟩
          exact (((hbel.alloc hbs _).trans hb7).alloc (Nat.le_trans hbs (by simp at hs7; omega)) _).trans hb8
        · have i1 : ¬ (j : Int) < (n1 : Int) := by omega
          have i2 : (j : Int) < 64 := by omega
          have hxX : X = 0 := by
            have h := HX.out
            rw [List.getD_eq_getElem?_getD, List.getElem?_eq_none (by omega)] at h
            exact h.symm
          subst hxX
          have y54 : bits .xor .u8 0 54 = (Y5.toNat : Int) := x54
          have y92 : bits .xor .u8 0 92 = (Y6.toNat : Int) := x92
          clear x54 x92
          go_wp2_with (first
            | (at_builtin; refine wpList_app2 Tryd.byteTypes rfl (.tmp 27) (.tmp 30) rfl w1.heap.size _ j L5 rfl (own_below HO5.out ((Below.refl _ _).alloc (Nat.le_refl _) _)) (.slice A6 j c6) j L6 (own_below HO6.out ((Below.refl _ _).alloc (Nat.le_refl _) _)) HSep.out _ _ 1 1 [Y5] rfl (one_of wr Y5 5).bs (by omega) (by simp; omega) ?_; intro A7 c7 w7 ho7 ho6 hsep7 hb7; have HO7 := Lib.hid ho7; have HO67 := Lib.hid ho6; have HS7 := Lib.hid hsep7; have hs7 := hb7.size; clear ho7 ho6 hsep7)
            | (at_builtin; refine wpList_app2 Tryd.byteTypes rfl (.tmp 32) (.tmp 35) rfl w1.heap.size _ j L6 rfl (own_below HO67.out ((Below.refl _ _).alloc (Nat.le_refl _) _)) (.slice A7 (j + 1) c7) (j + 1) (L5 ++ [Y5]) (own_below HO7.out ((Below.refl _ _).alloc (Nat.le_refl _) _)) HS7.out.symm _ _ 1 1 [Y6] rfl (one_of w7 Y6 5).bs (by omega) (by simp at hs7; simp; omega) ?_; intro A8 c8 w8 ho8 ho7 hsep8 hb8))
          refine ⟨⟨j + 1, A7, c7, A8, c8, by omega, by go_num, rfl, rfl, ?_, by rw [E54.out]; exact ho7, by rw [E92.out]; exact ho8, hsep8.symm⟩, by simp [intOf]; omega⟩
          exact (((hbel.alloc hbs _).trans hb7).alloc (Nat.le_trans hbs (by simp at hs7; omega)) _).trans hb8
      · obtain rfl : j = 64 := by omega
        rw [mask_all 54 (padTo KL) HPL.out] at ho5
        rw [mask_all 92 (padTo KL) HPL.out] at ho6
        have HR2 : Hid (R = sumL (maskL 92 (padTo KL) ++ sumL (maskL 54 (padTo KL) ++ l))) := HR
        have HB5 := Lib.hid ho5.bs
        have HB6 := Lib.hid ho6.bs
        clear ho5 ho6
        have hl5 := HB5.out.1
        have hl6 := HB6.out.1
        have HS1 := Lib.hid (fun A n c w hB hnc hF hT hn => RefSum_any A n c (maskL 54 (padTo KL) ++ l) w hB hnc hF hT hn)
        have HD1 := Lib.hid (sumL_length (maskL 54 (padTo KL) ++ l))
        generalize maskL 54 (padTo KL) = L5 at *
        generalize maskL 92 (padTo KL) = L6 at *
        generalize sumL (L5 ++ l) = D at *
        have HS2 := Lib.hid (fun A n c w hB hnc hF hT hn => RefSum_any A n c (L6 ++ D) w hB hnc hF hT hn)
        rw [← HR2.out] at HS2
        have HBr := Lib.hid (HBt.out.below hbel)
        have HFr := Lib.hid (HFt.out.below hbel)
        have HTr := Lib.hid (HTt.out.below hbel)
        have HZr := Lib.hid (HZ1.out.below hbel hz1)
        clear HBt HFt HTt HR HR2 hsep
        go_wp2_with (first
          | (go_at_call_of 62 (Value.slice B m d); refine (RefJoin_any A5 B 64 m c5 d L5 l wr HB5.out HBr.out (by omega)).mono ?_; rintro e2 w2 ⟨A2, n2, c2, rfl, hB2, hc2, hb2, -⟩; have HB2 := Lib.hid hB2; have hl2 := hB2.1; have hs2 := hb2.size; rw [List.length_append, hl5, hll] at hl2; clear hB2)
          | (go_at_call_of 23 (Value.slice A2 n2 c2); refine (HS1.out _ _ _ w2 HB2.out hc2 (HFr.out.below hb2) (HTr.out.below hb2) (by omega)).mono ?_; rintro e3 w3 ⟨rfl, hb3⟩; have hs3 := hb3.size)
          | (go_at_call 22; refine (DBytes_any D w3 HD1.out).mono ?_; rintro e4 w4 ⟨A4, n4, c4, rfl, hB4, hc4, hb4, -⟩; have HB4 := Lib.hid hB4; have hl4 := hB4.1; rw [HD1.out] at hl4; have hs4 := hb4.size; have hb24 : Below wr.heap.size wr w4 := (hb2.trans (hb3.mono hs2)).trans (hb4.mono (by omega)); clear hB4)
          | (go_at_call 62; refine (RefJoin_any A6 A4 64 n4 c6 c4 L6 D w4 (HB6.out.below hb24) HB4.out (by omega)).mono ?_; rintro e5 w5 ⟨A5', n5, c5', rfl, hB5, hc5, hb5, -⟩; have HB5' := Lib.hid hB5; have hl5' := hB5.1; rw [List.length_append, hl6, HD1.out] at hl5'; have hs5 := hb5.size; have hb25 := hb24.trans (hb5.mono (by omega)); clear hB5)
          | (go_at_call 23; refine (HS2.out _ _ _ w5 HB5'.out hc5 (HFr.out.below hb25) (HTr.out.below hb25) (by omega)).mono ?_; rintro e6 w6 ⟨rfl, hb6⟩; have hs6 := hb6.size; have hb26 := hb25.trans (hb6.mono (by omega)); have HZ6 := Lib.hid (HZr.out.below hb26 (by omega)))
          | (with_reducible refine wpList_store_row Tryd.agg25 rfl (.tmp 4) (.tmp 44) rfl _ _ rfl rfl 23 lit32 HZ6.out HS.out lit32_size (bcells_one _) ?_; intro w9 hr9 ho9; have HR9 := Lib.hid hr9; clear hr9))
        refine bodyPost_ret (results_row1 Tryd.agg25 Tryd.results49 rfl HR9.out HS.out) rfl ⟨rfl, ?_⟩
        have b1 := hb1.trans (hbel.mono hs1)
        have b2 := b1.trans (hb26.mono (by omega))
        exact b2.trans (ho9.below (Nat.le_refl _) b2.size)
end Go.Proofs.YtghihgmgadaoeaaDoor
