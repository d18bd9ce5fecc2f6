/-
  keys.Decode.
-/
import Derived.Test.YtfelmdndjdaniaaDoorKeyQ
namespace Go.Proofs.YtfelmdndjdaniaaDoor
open Go.RowKit
theorem row_ds {w : World} {g n : Nat} {L : List (List UInt8)} (h : Row w g 23 (bcells (flat L))) (hL : Digs L) (hl : L.length = n) : Ds w (some ⟨g, 0, none⟩) n L :=
  LevAt.ds (g := g) ⟨hl, hL, [], by rw [List.append_nil]; exact h⟩
theorem wrap_u64_pow {h : Nat} (h3 : h ≤ 6) : IntKind.u64.wrap ((2 : Int) ^ min h 64) = ((2 ^ h : Nat) : Int) := by
  have hp6 := pow_le6 h3
  rw [Nat.min_eq_left (by omega), show (2 : Int) ^ h = ((2 ^ h : Nat) : Int) by simp]
  generalize 2 ^ h = n at *
  simp [IntKind.wrap, IntKind.bits, IntKind.signed]
  omega
def DecK (w : World) (r : Int × Int × List (List UInt8) × List (List UInt8)) (e : Ending) (w' : World) : Prop :=
  ∃ A1 n1 c1 A2 n2 c2, e = .returned (.tuple #[.agg (sigC r.2.1 A1 n1 c1 A2 n2 c2), .int .i64 r.1]) ∧ Ds w' A1 n1 r.2.2.1 ∧ Ds w' A2 n2 r.2.2.2 ∧ Below w.heap.size w w'
set_option maxRecDepth 100000 in
set_option maxHeartbeats 1000000 in
theorem kDecode_no (A : Option Addr) (n c : Nat) (b h : Int) (w : World) (k : okK b h = false) : Calls Tryd.prog 28 #[.slice A n c, .int .i64 b, .int .i64 h] w (DecK w (1, 0, [], [])) := by
  obtain ⟨w0, hw0⟩ : ∃ w0, w.alloc (.cells sig0 44) = w0 := ⟨_, rfl⟩
  have hb0 : Below w.heap.size w w0 := by rw [← hw0]; exact (Below.refl w.heap.size w).alloc (Nat.le_refl _) _
  have HZ0 := Lib.hid (show Row w0 w.heap.size 44 sig0 by rw [← hw0]; exact Row.new w 44 sig0)
  have HM := Lib.hid (fun w => show Calls Tryd.prog 33 #[.int .i64 b, .int .i64 h] w fun e w' => e = .returned (.bool false) ∧ w = w' by have q := kMay_any b h w; rw [k] at q; exact q)
  unfold DecK
  clear k
  go_enter Tryd.func28, Tryd.ntmps28
  go_wp2_with (first
    | (go_at_call 33; refine (HM.out _).mono ?_; rintro e1 w1 ⟨rfl, rfl⟩)
    | (with_reducible refine wpList_store_row Tryd.aggSig rfl (.tmp 6) (.tmp 17) rfl _ sig0 rfl rfl 44 sig0 HZ0.out (sigC_size _ _ _ _ _ _ _) (sigC_size _ _ _ _ _ _ _) (sigC_one _ _ _ _ _ _ _) ?_; intro w9 hr9 ho9; have HR9 := Lib.hid hr9; clear hr9))
  exact bodyPost_ret (results_row2 Tryd.aggSig Tryd.results28 rfl rfl HR9.out (sigC_size _ _ _ _ _ _ _)) rfl ⟨none, 0, 0, none, 0, 0, rfl, Ds.nil _ _, Ds.nil _ _, hb0.trans (ho9.below (Nat.le_refl _) hb0.size)⟩
set_option maxRecDepth 100000 in
set_option maxHeartbeats 4000000 in
theorem kDecode_ok (A : Option Addr) (n c : Nat) (l : List UInt8) (b h : Nat) (w : World) (h1 : 1 ≤ b) (h2 : b ≤ 256) (h3 : h ≤ 6) (hB : Bs w A n l) (hn : n ≤ 1000000) (hw : 1 < w.heap.size) :
    Calls Tryd.prog 28 #[.slice A n c, .int .i64 (b : Int), .int .i64 (h : Int)] w (DecK w (decR b h l)) := by
  obtain ⟨w0, hw0⟩ : ∃ w0, w.alloc (.cells sig0 44) = w0 := ⟨_, rfl⟩
  have hb0 : Below w.heap.size w w0 := by rw [← hw0]; exact (Below.refl w.heap.size w).alloc (Nat.le_refl _) _
  have hs0 : w.heap.size < w0.heap.size := by rw [← hw0]; simp
  have HZ0 := Lib.hid (show Row w0 w.heap.size 44 sig0 by rw [← hw0]; exact Row.new w 44 sig0)
  have HB0 := Lib.hid (hB.below hb0)
  have hll : l.length ≤ 1000000 := by rw [hB.1]; exact hn
  have HM := Lib.hid (fun w => show Calls Tryd.prog 33 #[.int .i64 (b : Int), .int .i64 (h : Int)] w fun e w' => e = .returned (.bool true) ∧ w = w' by have q := kMay_any b h w; rw [okK_of h1 h2 h3] at q; exact q)
  have hmin := wrap_u64_pow h3
  have hmin2 : IntKind.u64.wrap ((2 : Int) ^ h) = ((2 ^ h : Nat) : Int) := by have q := wrap_u64_pow h3; rwa [Nat.min_eq_left (by omega)] at q
  have hp6 := pow_le6 h3
  obtain ⟨E1, V, S1, hq⟩ := triple (rdNum l)
  have hV : V < 18446744073709551616 := by have := rdNum_lt l; rw [hq] at this; exact this
  have HNum : Hid (∀ g b w, Rdr w 116 g b 0 l → Calls Tryd.prog 52 #[.pointer (some ⟨g, 0, none⟩), .int .u64 18446744073709551615] w fun e w' => e = .returned (.int .u64 (V : Int)) ∧ Rdr w' 116 g b E1 (l.drop S1) ∧ Only g w w') := Lib.hid (fun g b w hr => by
    have q := RNum_any g b 0 l 18446744073709551615 w hr (by omega) (by omega) (by omega)
    unfold RNum at q
    rw [sNum_max, if_pos rfl, hq] at q
    exact q)
  unfold DecK decR
  rw [hq]
  simp only
  generalize hl1 : l.drop S1 = l1 at *
  obtain ⟨B2, hB2⟩ : ∃ B2, 2 * b = B2 := ⟨_, rfl⟩
  have hB2i : 2 * (b : Int) = (B2 : Int) := by omega
  have hB2l : B2 ≤ 512 := by omega
  rw [hB2]
  have HD1 : Hid (∀ g w, RdX w 116 g E1 l1 → 1 < w.heap.size → Calls Tryd.prog 53 #[.pointer (some ⟨g, 0, none⟩), .int .i64 (B2 : Int)] w (DgK w g B2 (E1, l1))) := Lib.hid (fun g w hr hw => kDigests_any g B2 E1 l1 w hr hB2l hw)
  have HOl := Lib.hid (rdD_length B2 (E1, l1))
  have HOd := Lib.hid (rdD_digs B2 (E1, l1))
  obtain ⟨E2, l2, hq2⟩ : ∃ E2 l2, rdS B2 (E1, l1) = (E2, l2) := ⟨_, _, rfl⟩
  unfold DgK at HD1
  rw [hq2] at HD1 ⊢
  generalize rdD B2 (E1, l1) = O at *
  have HD2 : Hid (∀ g w, RdX w 116 g E2 l2 → 1 < w.heap.size → Calls Tryd.prog 53 #[.pointer (some ⟨g, 0, none⟩), .int .i64 (h : Int)] w (DgK w g h (E2, l2))) := Lib.hid (fun g w hr hw => kDigests_any g h E2 l2 w hr (by omega) hw)
  have HPl := Lib.hid (rdD_length h (E2, l2))
  have HPd := Lib.hid (rdD_digs h (E2, l2))
  obtain ⟨E3, l3, hq3⟩ : ∃ E3 l3, rdS h (E2, l2) = (E3, l3) := ⟨_, _, rfl⟩
  unfold DgK at HD2
  rw [hq3] at HD2 ⊢
  generalize rdD h (E2, l2) = PP at *
  have HEn : Hid (∀ g w, RdX w 116 g E3 l3 → Calls Tryd.prog 54 #[.pointer (some ⟨g, 0, none⟩)] w fun e w' => e = .returned (.int .i64 (sEnd E3 l3)) ∧ Only g w w') := Lib.hid (fun g w ⟨b, hr⟩ => (REnd_any g b E3 l3 w hr).mono fun e w' ⟨q1, _, q3⟩ => ⟨q1, q3⟩)
  simp only at HD1 HD2 ⊢
  generalize sEnd E3 l3 = F at *
  generalize 2 ^ h = nn at *
  clear hq hq2 hq3 hl1 hB2 hB h1
  by_cases hF : F = 0
  · rw [if_neg (fun q => q hF)]
    subst hF
    by_cases hv : nn ≤ V
    · rw [if_pos hv]
      have hvi : (nn : Int) ≤ (V : Int) := by omega
      go_enter Tryd.func28, Tryd.ntmps28
      go_wp2_with (first
        | (go_at_call 33; refine (HM.out _).mono ?_; rintro e1 w1 ⟨rfl, rfl⟩)
        | (go_at_call 51; refine (Read_any A n c l w0 HB0.out (by omega)).mono ?_; rintro e1 w1 ⟨g, b1, rfl, hg, hgb, hr1, hb1⟩; have HR1 := Lib.hid hr1; have hgl := hr1.lt; have D1 : Below w0.heap.size w0 w1 := hb1; clear hr1)
        | (go_at_call 52; refine (HNum.out g b1 w1 HR1.out).mono ?_; rintro e2 w2 ⟨rfl, hr2, ho2⟩; have HR2 : Hid (RdX w2 116 g E1 l1) := Lib.hid ⟨b1, hr2⟩; have D2 := D1.trans (ho2.below hg D1.size); have hs2 := ho2.size; clear hr2)
        | (go_at_call 53; have hz := HR3; clear hz; refine (HD2.out g w3 HR3.out (by have := D3.size; omega)).mono ?_; rintro e4 w4 ⟨gp, rfl, hgp, hrow4, hr4, ho4⟩; have HP4 := Lib.hid hrow4; have HR4 := Lib.hid hr4; have HO4 := Lib.hid (HO3.out.only ho4 (by omega)); have D4 := D3.trans (ho4.below hg D3.size); have hs4 := ho4.size; clear hrow4 hr4)
        | (go_at_call 53; refine (HD1.out g w2 HR2.out (by have := D2.size; omega)).mono ?_; rintro e3 w3 ⟨go, rfl, hgo, hrow3, hr3, ho3⟩; have HO3 := Lib.hid hrow3; have HR3 := Lib.hid hr3; have D3 := D2.trans (ho3.below hg D2.size); have hs3 := ho3.size; clear hrow3 hr3)
        | (go_at_call 54; refine (HEn.out g w4 HR4.out).mono ?_; rintro e5 w5 ⟨rfl, ho5⟩; have HO5 := Lib.hid (HO4.out.only ho5 (by omega)); have HP5 := Lib.hid (HP4.out.only ho5 (by omega)); have D5 := D4.trans (ho5.below hg D4.size); have hs5 := ho5.size; have HZ5 := Lib.hid (HZ0.out.below D5 hs0); have b5 := hb0.trans (D5.mono (by omega)))
        | (with_reducible refine wpList_store_row Tryd.aggSig rfl (.tmp 6) (.tmp 39) rfl _ (sig0) rfl rfl 44 sig0 HZ5.out (sigC_size _ _ _ _ _ _ _) (sigC_size _ _ _ _ _ _ _) (sigC_one _ _ _ _ _ _ _) ?_; intro w9 hr9 ho9; have HR9 := Lib.hid hr9; clear hr9))
      exact bodyPost_ret (results_row2 Tryd.aggSig Tryd.results28 rfl rfl HR9.out (sigC_size _ _ _ _ _ _ _)) rfl ⟨none, 0, 0, none, 0, 0, rfl, Ds.nil _ _, Ds.nil _ _, b5.trans (ho9.below (Nat.le_refl _) b5.size)⟩
    · rw [if_neg hv]
      have hvi : ¬ (nn : Int) ≤ (V : Int) := by omega
      have hwV : wrap64 (V : Int) = (V : Int) := by unfold wrap64; omega
      go_enter Tryd.func28, Tryd.ntmps28
      go_wp2_with (first
        | (go_at_call 33; refine (HM.out _).mono ?_; rintro e1 w1 ⟨rfl, rfl⟩)
        | (go_at_call 51; refine (Read_any A n c l w0 HB0.out (by omega)).mono ?_; rintro e1 w1 ⟨g, b1, rfl, hg, hgb, hr1, hb1⟩; have HR1 := Lib.hid hr1; have hgl := hr1.lt; have D1 : Below w0.heap.size w0 w1 := hb1; clear hr1)
        | (go_at_call 52; refine (HNum.out g b1 w1 HR1.out).mono ?_; rintro e2 w2 ⟨rfl, hr2, ho2⟩; have HR2 : Hid (RdX w2 116 g E1 l1) := Lib.hid ⟨b1, hr2⟩; have D2 := D1.trans (ho2.below hg D1.size); have hs2 := ho2.size; clear hr2)
        | (go_at_call 53; have hz := HR3; clear hz; refine (HD2.out g w3 HR3.out (by have := D3.size; omega)).mono ?_; rintro e4 w4 ⟨gp, rfl, hgp, hrow4, hr4, ho4⟩; have HP4 := Lib.hid hrow4; have HR4 := Lib.hid hr4; have HO4 := Lib.hid (HO3.out.only ho4 (by omega)); have D4 := D3.trans (ho4.below hg D3.size); have hs4 := ho4.size; clear hrow4 hr4)
        | (go_at_call 53; refine (HD1.out g w2 HR2.out (by have := D2.size; omega)).mono ?_; rintro e3 w3 ⟨go, rfl, hgo, hrow3, hr3, ho3⟩; have HO3 := Lib.hid hrow3; have HR3 := Lib.hid hr3; have D3 := D2.trans (ho3.below hg D2.size); have hs3 := ho3.size; clear hrow3 hr3)
        | (go_at_call 54; refine (HEn.out g w4 HR4.out).mono ?_; rintro e5 w5 ⟨rfl, ho5⟩; have HO5 := Lib.hid (HO4.out.only ho5 (by omega)); have HP5 := Lib.hid (HP4.out.only ho5 (by omega)); have D5 := D4.trans (ho5.below hg D4.size); have hs5 := ho5.size; have HZ5 := Lib.hid (HZ0.out.below D5 hs0); have b5 := hb0.trans (D5.mono (by omega)))
        | (with_reducible refine wpList_store_row Tryd.aggSig rfl (.tmp 6) (.tmp 44) rfl _ (sigC (V : Int) (some ⟨go, 0, none⟩) B2 B2 (some ⟨gp, 0, none⟩) h h) rfl rfl 44 sig0 HZ5.out (sigC_size _ _ _ _ _ _ _) (sigC_size _ _ _ _ _ _ _) (sigC_one _ _ _ _ _ _ _) ?_; intro w9 hr9 ho9; have HR9 := Lib.hid hr9; clear hr9))
      exact bodyPost_ret (results_row2 Tryd.aggSig Tryd.results28 rfl rfl HR9.out (sigC_size _ _ _ _ _ _ _)) rfl ⟨_, B2, B2, _, h, h, rfl, row_ds (HO5.out.only ho9 (by omega)) HOd.out HOl.out, row_ds (HP5.out.only ho9 (by omega)) HPd.out HPl.out, b5.trans (ho9.below (Nat.le_refl _) b5.size)⟩
  · rw [if_pos hF]
    have hFb : (F != 0) = true := by simp [hF]
    clear hF
    go_enter Tryd.func28, Tryd.ntmps28
    go_wp2_with (first
      | (go_at_call 33; refine (HM.out _).mono ?_; rintro e1 w1 ⟨rfl, rfl⟩)
      | (go_at_call 51; refine (Read_any A n c l w0 HB0.out (by omega)).mono ?_; rintro e1 w1 ⟨g, b1, rfl, hg, hgb, hr1, hb1⟩; have HR1 := Lib.hid hr1; have hgl := hr1.lt; have D1 : Below w0.heap.size w0 w1 := hb1; clear hr1)
      | (go_at_call 52; refine (HNum.out g b1 w1 HR1.out).mono ?_; rintro e2 w2 ⟨rfl, hr2, ho2⟩; have HR2 : Hid (RdX w2 116 g E1 l1) := Lib.hid ⟨b1, hr2⟩; have D2 := D1.trans (ho2.below hg D1.size); have hs2 := ho2.size; clear hr2)
      | (go_at_call 53; have hz := HR3; clear hz; refine (HD2.out g w3 HR3.out (by have := D3.size; omega)).mono ?_; rintro e4 w4 ⟨gp, rfl, hgp, hrow4, hr4, ho4⟩; have HP4 := Lib.hid hrow4; have HR4 := Lib.hid hr4; have HO4 := Lib.hid (HO3.out.only ho4 (by omega)); have D4 := D3.trans (ho4.below hg D3.size); have hs4 := ho4.size; clear hrow4 hr4)
      | (go_at_call 53; refine (HD1.out g w2 HR2.out (by have := D2.size; omega)).mono ?_; rintro e3 w3 ⟨go, rfl, hgo, hrow3, hr3, ho3⟩; have HO3 := Lib.hid hrow3; have HR3 := Lib.hid hr3; have D3 := D2.trans (ho3.below hg D2.size); have hs3 := ho3.size; clear hrow3 hr3)
      | (go_at_call 54; refine (HEn.out g w4 HR4.out).mono ?_; rintro e5 w5 ⟨rfl, ho5⟩; have HO5 := Lib.hid (HO4.out.only ho5 (by omega)); have HP5 := Lib.hid (HP4.out.only ho5 (by omega)); have D5 := D4.trans (ho5.below hg D4.size); have hs5 := ho5.size; have HZ5 := Lib.hid (HZ0.out.below D5 hs0); have b5 := hb0.trans (D5.mono (by omega)))
      | (with_reducible refine wpList_store_row Tryd.aggSig rfl (.tmp 6) (.tmp 33) rfl _ (sig0) rfl rfl 44 sig0 HZ5.out (sigC_size _ _ _ _ _ _ _) (sigC_size _ _ _ _ _ _ _) (sigC_one _ _ _ _ _ _ _) ?_; intro w9 hr9 ho9; have HR9 := Lib.hid hr9; clear hr9))
    exact bodyPost_ret (results_row2 Tryd.aggSig Tryd.results28 rfl rfl HR9.out (sigC_size _ _ _ _ _ _ _)) rfl ⟨none, 0, 0, none, 0, 0, rfl, Ds.nil _ _, Ds.nil _ _, b5.trans (ho9.below (Nat.le_refl _) b5.size)⟩
end Go.Proofs.YtfelmdndjdaniaaDoor
