/-
  What the document's own reader (juratref04.Reader) answers: Text, List, Byte, Digest, End.
-/
import Derived.Test.YtjifahocfbbicaaRefRdr
namespace Go.Proofs.Ytjifahocfbbicaa
open Go.RowKit
set_option maxHeartbeats 1000000 in
theorem RefEnd_any (g b : Nat) (E : Int) (l : List UInt8) (w : World) (h : Rdr w 38 g b E l) :
    Calls Try.prog 34 #[.pointer (some ⟨g, 0, none⟩)] w (REnd w 38 g b l (sEnd E l)) := by
  have H := Lib.hid h
  obtain ⟨A, n, c, hr, hB, hnc, hI, hbg⟩ := h
  have c0 : w.cell? ⟨g, 0, none⟩ = some (.slice A n c) := hr.cell 0
  have c1 : w.cell? ⟨g, 1, none⟩ = some (.int .i64 E) := hr.cell 1
  have f1 := hr.frozen 1
  have hn := hB.1
  have HME := Lib.hid (fun E => met (b := b) E hr hB hnc hI hbg)
  have HC := Lib.hid (show (w.setCell ⟨g, 1, none⟩ (.int .i64 43)).cell? ⟨g, 1, none⟩ = some (.int .i64 43) from (row2_set1 hr (.int .i64 43)).cell 1)
  by_cases hE : E = 0
  · subst hE
    by_cases hz : n = 0
    · have HQ := Lib.hid (show sEnd 0 l = 0 by unfold sEnd; rw [if_neg]; rintro ⟨_, h⟩; exact h (hB.empty hz))
      subst hz
      generalize sEnd 0 l = q at *
      clear hr hB hI
      go_enter Try.func34, Try.ntmps34
      go_wp2
      go_ret
      rw [HQ.out]
      exact ⟨rfl, H.out, Only.refl _ _⟩
    · have HQ := Lib.hid (show sEnd 0 l = 43 by unfold sEnd; rw [if_pos]; exact ⟨rfl, fun h => hz (by rw [← hn, h]; rfl)⟩)
      have hz2 : (0 : Int) < (n : Int) := by omega
      have hc2 := HC.out
      generalize sEnd 0 l = q at *
      clear hr hB hI hn hz
      go_enter Try.func34, Try.ntmps34
      go_wp2
      go_ret
      rw [HQ.out]
      exact ⟨rfl, HME.out 43, Only.setCell g 1 w _⟩
  · have HQ := Lib.hid (show sEnd E l = E by unfold sEnd; rw [if_neg]; rintro ⟨h, _⟩; exact hE h)
    have hE2 : (E == 0) = false := by simp [hE]
    generalize sEnd E l = q at *
    clear hr hB hI
    go_enter Try.func34, Try.ntmps34
    go_wp2
    go_ret
    rw [HQ.out]
    exact ⟨rfl, H.out, Only.refl _ _⟩
theorem sNum_max (E : Int) (l : List UInt8) : sNum E l 18446744073709551615 = if E = 0 then rdNum l else (E, 0, 0) := by
  unfold sNum; rw [rdLen_max]
/-- the old bytes are put back -/
theorem back {w : World} {g b : Nat} {A : Option Addr} {n c : Nat} {l : List UInt8} {x : Value} {E : Int} (hr : Row w g 38 #[x, .int .i64 E]) (hB : Bs w A n l) (hnc : n ≤ c) (hI : InB A n b) (hbg : b ≠ g) :
    Rdr (w.setCell ⟨g, 0, none⟩ (.slice A n c)) 38 g b E l :=
  ⟨A, n, c, row2_set0 hr _, hB.only (hI.apart hbg) (Only.setCell g 0 w _), hnc, hI, hbg⟩
set_option maxHeartbeats 2000000 in
theorem RefText_r (g b : Nat) (E : Int) (l : List UInt8) (most : Int) (w : World) (h : Rdr w 38 g b E l) (hl : l.length ≤ 1000000000) (hm : most < 9223372036854775808) (hm0 : -9223372036854775808 ≤ most) :
    Calls Try.prog 25 #[.pointer (some ⟨g, 0, none⟩), .int .i64 most] w (RText w 38 g b l (sText E l most)) := by
  have HN := Lib.hid (RefRNum_any g b E l 18446744073709551615 w h hl)
  have hgw := h.lt
  rw [sNum_max] at HN
  obtain ⟨A, n, c, hr, hB, hnc, hI, hbg⟩ := h
  have c0 : w.cell? ⟨g, 0, none⟩ = some (.slice A n c) := hr.cell 0
  have HB := Lib.hid hB
  have HI := Lib.hid hI
  have hn := hB.1
  clear hr hB hI
  by_cases hE : E ≠ 0
  · have HQ := Lib.hid (show sText E l most = (E, [], 0) by unfold sText; rw [if_neg hE])
    rw [if_neg hE] at HN
    have hE2 := bne0 hE
    unfold RNum at HN
    simp only at HN
    generalize sText E l most = q at *
    go_enter Try.func25, Try.ntmps25
    go_wp2_with (go_at_call 23; refine HN.out.mono ?_; rintro e w1 ⟨rfl, ⟨A1, n1, c1, hr1, hrest⟩, h2⟩; have k1 : w1.cell? ⟨g, 1, none⟩ = some (.int .i64 E) := hr1.cell 1; have H1 := Lib.hid hr1; have H1' := Lib.hid hrest; clear hr1 hrest)
    go_ret
    rw [HQ.out]
    exact ⟨none, 0, rfl, Nat.le_refl _, Own.nil _ _ _, ⟨A1, n1, c1, H1.out, H1'.out⟩, h2⟩
  obtain rfl : E = 0 := Decidable.not_not.1 hE
  clear hE
  rw [if_pos rfl] at HN
  have HS := Lib.hid (show sText 0 l most = rdText l most from rfl)
  have hsz := rdNum_size l
  have hlt := rdNum_lt l
  have hcs := rdNum_cases l
  obtain ⟨E1, V1, S1, hq⟩ := triple (rdNum l)
  have HD : Hid (rdLen l most = if E1 = 0 then (if most < V1 then (42, 0, 0) else (E1, V1, S1)) else (E1, V1, S1)) := Lib.hid (by unfold rdLen; rw [hq])
  rw [hq] at HN hsz hlt hcs
  rw [hn] at hsz
  simp only at hsz hlt
  unfold RNum at HN
  simp only at HN
  by_cases hE1 : E1 ≠ 0
  · have HQ := Lib.hid (show sText 0 l most = (E1, [], 0) by rw [HS.out]; unfold rdText; rw [HD.out, if_neg hE1, if_neg hE1])
    have hS0 : S1 = 0 := by
      rcases hcs with ⟨_, h2⟩ | ⟨x, r, _, _, _, _, h2⟩
      · exact congrArg Prod.snd h2
      · exact absurd (congrArg Prod.fst h2) hE1
    have hE2 := bne0 hE1
    subst hS0
    generalize sText 0 l most = q at *
    clear HD HS hcs hq
    go_enter Try.func25, Try.ntmps25
    go_wp2_with (go_at_call 23; refine HN.out.mono ?_; rintro e w1 ⟨rfl, ⟨A1, n1, c1, hr1, hrest⟩, h2⟩; have k1 : w1.cell? ⟨g, 1, none⟩ = some (.int .i64 E1) := hr1.cell 1; have H1 := Lib.hid hr1; have H1' := Lib.hid hrest; clear hr1 hrest)
    go_ret
    rw [HQ.out]
    exact ⟨none, 0, rfl, Nat.le_refl _, Own.nil _ _ _, ⟨A1, n1, c1, H1.out, H1'.out⟩, h2⟩
  obtain rfl : E1 = 0 := Decidable.not_not.1 hE1
  have hF : (l.drop S1).length = n - S1 := by rw [List.length_drop, hn]
  have HF := Lib.hid hF
  clear hE1 hcs hF
  by_cases hmo : most < (V1 : Int)
  · have HQ := Lib.hid (show sText 0 l most = (42, [], 0) by rw [HS.out]; unfold rdText; rw [HD.out, if_pos rfl, if_pos hmo]; rfl)
    generalize sText 0 l most = q at *
    clear HD HS hq
    have hout : ∀ w1, Only g w w1 → ∀ A1 n1 c1, Row w1 g 38 #[.slice A1 n1 c1, .int .i64 0] → Rdr ((w1.setCell ⟨g, 1, none⟩ (.int .i64 42)).setCell ⟨g, 0, none⟩ (.slice A n c)) 38 g b 42 l ∧ Only g w ((w1.setCell ⟨g, 1, none⟩ (.int .i64 42)).setCell ⟨g, 0, none⟩ (.slice A n c)) := fun w1 ho A1 n1 c1 hr1 => by
      have h2 := Only.setCell g 1 w1 (.int .i64 42)
      exact ⟨back (row2_set1 hr1 _) (HB.out.only (HI.out.apart hbg) (ho.trans h2)) hnc HI.out hbg, (ho.trans h2).trans (Only.setCell g 0 _ _)⟩
    have HOut := Lib.hid hout
    clear hout
    by_cases h0 : most < 0
    · go_enter Try.func25, Try.ntmps25
      go_wp2_with (go_at_call 23; refine HN.out.mono ?_; rintro e w1 ⟨rfl, ⟨A1, n1, c1, hr1, hrest⟩, h2⟩; have k1 : w1.cell? ⟨g, 1, none⟩ = some (.int .i64 0) := hr1.cell 1; have f1 := hr1.frozen 1; have k0 := (row2_set1 hr1 (.int .i64 42)).cell 0; have f0 := (row2_set1 hr1 (.int .i64 42)).frozen 0; simp only [List.getElem?_toArray, List.getElem?_cons_zero] at k0; have H1 := Lib.hid hr1; clear hr1 hrest)
      go_ret
      rw [HQ.out]
      have ho := HOut.out w1 h2 A1 n1 c1 H1.out
      exact ⟨none, 0, rfl, Nat.le_refl _, Own.nil _ _ _, ho.1, ho.2⟩
    · go_enter Try.func25, Try.ntmps25
      go_wp2_with (go_at_call 23; refine HN.out.mono ?_; rintro e w1 ⟨rfl, ⟨A1, n1, c1, hr1, hrest⟩, h2⟩; have k1 : w1.cell? ⟨g, 1, none⟩ = some (.int .i64 0) := hr1.cell 1; have f1 := hr1.frozen 1; have k0 := (row2_set1 hr1 (.int .i64 42)).cell 0; have f0 := (row2_set1 hr1 (.int .i64 42)).frozen 0; simp only [List.getElem?_toArray, List.getElem?_cons_zero] at k0; have H1 := Lib.hid hr1; clear hr1 hrest)
      go_ret
      rw [HQ.out]
      have ho := HOut.out w1 h2 A1 n1 c1 H1.out
      exact ⟨none, 0, rfl, Nat.le_refl _, Own.nil _ _ _, ho.1, ho.2⟩
  have h0 : ¬ most < 0 := by omega
  have HLn : Hid (rdLen l most = (0, V1, S1)) := Lib.hid (by rw [HD.out, if_pos rfl, if_neg hmo])
  clear HD hq
  by_cases hv : n < S1 + V1
  · have HQ := Lib.hid (show sText 0 l most = (40, [], 0) by rw [HS.out]; unfold rdText; rw [HLn.out, if_pos rfl, if_pos (by rw [hn]; exact hv)])
    generalize sText 0 l most = q at *
    clear HS HLn
    have hv2 : ((n - S1 : Nat) : Int) < (V1 : Int) := by omega
    have hout : ∀ w1, Only g w w1 → ∀ A1 n1 c1, Row w1 g 38 #[.slice A1 n1 c1, .int .i64 0] → Rdr ((w1.setCell ⟨g, 1, none⟩ (.int .i64 40)).setCell ⟨g, 0, none⟩ (.slice A n c)) 38 g b 40 l ∧ Only g w ((w1.setCell ⟨g, 1, none⟩ (.int .i64 40)).setCell ⟨g, 0, none⟩ (.slice A n c)) := fun w1 ho A1 n1 c1 hr1 => by
      have h2 := Only.setCell g 1 w1 (.int .i64 40)
      exact ⟨back (row2_set1 hr1 _) (HB.out.only (HI.out.apart hbg) (ho.trans h2)) hnc HI.out hbg, (ho.trans h2).trans (Only.setCell g 0 _ _)⟩
    have HOut := Lib.hid hout
    clear hout
    go_enter Try.func25, Try.ntmps25
    go_wp2_with (go_at_call 23; refine HN.out.mono ?_; rintro e w1 ⟨rfl, ⟨A1, n1, c1, hr1, hB1, hrest⟩, h2⟩; obtain rfl : n1 = n - S1 := hB1.1.symm.trans HF.out; have k1 : w1.cell? ⟨g, 1, none⟩ = some (.int .i64 0) := hr1.cell 1; have k00 : w1.cell? ⟨g, 0, none⟩ = some (.slice A1 (n - S1) c1) := hr1.cell 0; have f1 := hr1.frozen 1; have k0 := (row2_set1 hr1 (.int .i64 40)).cell 0; have f0 := (row2_set1 hr1 (.int .i64 40)).frozen 0; simp only [List.getElem?_toArray, List.getElem?_cons_zero] at k0; have H1 := Lib.hid hr1; clear hr1 hrest hB1)
    go_ret
    rw [HQ.out]
    have ho := HOut.out w1 h2 _ _ _ H1.out
    exact ⟨none, 0, rfl, Nat.le_refl _, Own.nil _ _ _, ho.1, ho.2⟩
  · have HQ := Lib.hid (show sText 0 l most = (0, (l.drop S1).take V1, S1 + V1) by rw [HS.out]; unfold rdText; rw [HLn.out, if_pos rfl, if_neg (by rw [hn]; exact hv)])
    generalize sText 0 l most = q at *
    clear HS HLn
    have hv2 : (V1 : Int) ≤ ((n - S1 : Nat) : Int) := by omega
    have hTl : ((l.drop S1).take V1).length = V1 := by rw [List.length_take, List.length_drop, hn]; omega
    have HTl := Lib.hid hTl
    have HDr := Lib.hid (show (l.drop S1).drop V1 = l.drop (S1 + V1) by rw [List.drop_drop])
    clear hTl
    generalize l.drop S1 = l1 at *
    go_enter Try.func25, Try.ntmps25
    go_wp2_with (first
      | (go_at_call 23; refine HN.out.mono ?_; rintro e w1 ⟨rfl, ⟨A1, n1, c1, hr1, hB1, hnc1, hI1, _⟩, h2⟩; obtain rfl : n1 = n - S1 := hB1.1.symm.trans HF.out; have k1 : w1.cell? ⟨g, 1, none⟩ = some (.int .i64 0) := hr1.cell 1; have k00 : w1.cell? ⟨g, 0, none⟩ = some (.slice A1 (n - S1) c1) := hr1.cell 0; have H1 := Lib.hid hr1; have HB1 := Lib.hid hB1; have HI1 := Lib.hid hI1; obtain ⟨B1, hs1, hb1⟩ := cutU_head A1 (n - S1) c1 V1 (by omega) hnc1; obtain ⟨B2, hs2, hb2, hi2⟩ := cutU_from .u64 A1 (n - S1) c1 V1 (by omega) hnc1; have HH1 := Lib.hid hb1; have HH2 := Lib.hid hb2; have HH3 := Lib.hid hi2; have kz : (w1.alloc (.cells #[] 5)).cell? ⟨g, 0, none⟩ = some (.slice A1 (n - S1) c1) := ((hr1.alloc (.cells #[] 5)).cell 0); clear hr1 hB1 hI1 hb1 hb2 hi2)
      | (at_builtin; refine wpList_copy Try.byteTypes rfl (.tmp 49) (.tmp 55) rfl rfl B1 V1 c1 (l1.take V1) rfl (HH1.out _ _ HB1.out) (by omega) ?_; intro A3 c3 w3 hB3 hc3 hb3 ho3; have hr3 := H1.out.below hb3 H1.out.lt; have k3 : w3.cell? ⟨g, 0, none⟩ = some (.slice A1 (n - S1) c1) := hr3.cell 0; have f3 := hr3.frozen 0; have H3 := Lib.hid hr3; clear hr3))
    go_ret
    rw [HQ.out]
    have ho1 : Only g w w3 := h2.trans (Only.of_below hb3)
    have ho2 := Only.setCell g 0 w3 (.slice B2 (n - S1 - V1) (c1 - V1))
    refine ⟨A3, c3, ?_, ?_, ?_, ?_, ho1.trans ho2⟩
    · simp only [HTl.out]; rfl
    · simp only [HTl.out]; exact hc3
    · simp only [HTl.out]; exact own_only (ho3.mono h2.size) ho2 hgw
    · simp only
      rw [← HDr.out]
      exact ⟨B2, n - S1 - V1, c1 - V1, row2_set0 H3.out _, ((HH2.out _ _ HB1.out).below hb3).only ((HH3.out b HI1.out).apart hbg) ho2, by omega, HH3.out b HI1.out, hbg⟩
end Go.Proofs.Ytjifahocfbbicaa
