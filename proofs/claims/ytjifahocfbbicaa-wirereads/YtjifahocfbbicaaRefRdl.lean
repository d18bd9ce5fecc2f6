/-
  What the document's own reader (juratref04.Reader) answers: List, Byte, Digest.
-/
import Derived.Test.YtjifahocfbbicaaRefRdm
namespace Go.Proofs.Ytjifahocfbbicaa
open Go.RowKit
/-- how long a slice is -/
def lenV : Value → Nat
  | .slice _ n _ => n
  | _ => 0
theorem Rdr.belowB {w w' : World} {t : TypeId} {g b B : Nat} {E : Int} {l : List UInt8} (h : Rdr w t g b E l) (hb : Below B w w') (hg : g < B) (hbB : l ≠ [] → b < B) : Rdr w' t g b E l := by
  obtain ⟨A, n, c, h1, h2, h3, h4, h5⟩ := h
  refine ⟨A, n, c, h1.below hb hg, ⟨h2.1, fun k x hx => ?_⟩, h3, h4, h5⟩
  obtain ⟨b', off, hA, hlt, hc⟩ := h2.2 k x hx
  have hne : l ≠ [] := by rintro rfl; simp at hx
  have hbb := hbB hne
  rcases h4 with h0 | ⟨off', hA'⟩
  · exact absurd (h2.empty h0) hne
  · rw [hA] at hA'
    injection hA' with q
    injection q with q _
    subst q
    exact ⟨b', off, hA, Nat.lt_of_lt_of_le hlt hb.size, (hb.cell (p := ⟨b', off + k, none⟩) hbb).trans hc⟩
set_option maxRecDepth 100000 in
set_option maxHeartbeats 4000000 in
theorem RefList_r (g b : Nat) (E : Int) (l : List UInt8) (most each : Int) (w : World) (h : Rdr w 38 g b E l) (hl : l.length ≤ 1000000000) (hm : most < 9223372036854775808) (hm0 : -9223372036854775808 ≤ most) (he : each < 9223372036854775808) (he0 : -9223372036854775808 ≤ each) :
    Calls Try.prog 28 #[.pointer (some ⟨g, 0, none⟩), .int .i64 most, .int .i64 each] w (RList w 38 g b l (sList E l most each)) := by
  have HN := Lib.hid (RefRNum_any g b E l 18446744073709551615 w h hl)
  have hgw := h.lt
  have HBW := Lib.hid (fun hne => h.blt hne)
  rw [sNum_max] at HN
  obtain ⟨A, n, c, hr, hB, hnc, hI, hbg⟩ := h
  have c0 : w.cell? ⟨g, 0, none⟩ = some (.slice A n c) := hr.cell 0
  have HB := Lib.hid hB
  have HI := Lib.hid hI
  have hn := hB.1
  clear hr hB hI
  by_cases hE : E ≠ 0
  · have HQ := Lib.hid (show sList E l most each = (E, [], 0) by unfold sList; rw [if_neg hE])
    rw [if_neg hE] at HN
    have hE2 := bne0 hE
    unfold RNum at HN
    simp only at HN
    generalize sList E l most each = q at *
    go_enter Try.func28, Try.ntmps28
    go_wp2_with (go_at_call 23; refine HN.out.mono ?_; rintro e w1 ⟨rfl, ⟨A1, n1, c1, hr1, hrest⟩, h2⟩; have k1 : w1.cell? ⟨g, 1, none⟩ = some (.int .i64 E) := hr1.cell 1; have H1 := Lib.hid hr1; have H1' := Lib.hid hrest; clear hr1 hrest)
    go_ret
    rw [HQ.out]
    exact ⟨none, 0, rfl, Nat.le_refl _, OwnL.nil _ _, ⟨A1, n1, c1, H1.out, H1'.out⟩, h2⟩
  obtain rfl : E = 0 := Decidable.not_not.1 hE
  clear hE
  rw [if_pos rfl] at HN
  have HS := Lib.hid (show sList 0 l most each = rdList l most each from rfl)
  have hsz := rdNum_size l
  have hlt := rdNum_lt l
  have hcs := rdNum_cases l
  obtain ⟨E1, V1, S1, hq⟩ := triple (rdNum l)
  have HD : Hid (rdLen l most = if E1 = 0 then (if most < V1 then (42, 0, 0) else (E1, V1, S1)) else (E1, V1, S1)) := Lib.hid (by unfold rdLen; rw [hq])
  rw [hq] at HN hsz hlt hcs
  rw [hn] at hsz
  simp only at hsz hlt
  unfold RNum at HN
  simp only at HN
  by_cases hE1 : E1 ≠ 0
  · have HQ := Lib.hid (show sList 0 l most each = (E1, [], 0) by
      have e : rdLen l most = (E1, V1, S1) := by rw [HD.out, if_neg hE1]
      rw [HS.out, rdList_no l most each (by rw [e]; exact hE1), e])
    have hS0 : S1 = 0 := by
      rcases hcs with ⟨_, h2⟩ | ⟨x, r, _, _, _, _, h2⟩
      · exact congrArg Prod.snd h2
      · exact absurd (congrArg Prod.fst h2) hE1
    have hE2 := bne0 hE1
    subst hS0
    generalize sList 0 l most each = q at *
    clear HD HS hcs hq
    go_enter Try.func28, Try.ntmps28
    go_wp2_with (go_at_call 23; refine HN.out.mono ?_; rintro e w1 ⟨rfl, ⟨A1, n1, c1, hr1, hrest⟩, h2⟩; have k1 : w1.cell? ⟨g, 1, none⟩ = some (.int .i64 E1) := hr1.cell 1; have H1 := Lib.hid hr1; have H1' := Lib.hid hrest; clear hr1 hrest)
    go_ret
    rw [HQ.out]
    exact ⟨none, 0, rfl, Nat.le_refl _, OwnL.nil _ _, ⟨A1, n1, c1, H1.out, H1'.out⟩, h2⟩
  obtain rfl : E1 = 0 := Decidable.not_not.1 hE1
  have hS1 : 0 < S1 := by
    rcases hcs with ⟨h1, _⟩ | ⟨x, r, _, _, _, _, h2⟩
    · exact absurd rfl h1
    · have : S1 = 1 + x.toNat := congrArg (fun y => y.2.2) h2
      omega
  clear hE1 hcs
  by_cases hmo : most < (V1 : Int)
  · have HQ := Lib.hid (show sList 0 l most each = (42, [], 0) by
      have e : rdLen l most = (42, 0, 0) := by rw [HD.out, if_pos rfl, if_pos hmo]
      rw [HS.out, rdList_no l most each (by rw [e]; simp), e])
    generalize sList 0 l most each = q at *
    clear HD HS hq
    have hout : ∀ w1, Only g w w1 → ∀ A1 n1 c1, Row w1 g 38 #[.slice A1 n1 c1, .int .i64 0] → Rdr ((w1.setCell ⟨g, 1, none⟩ (.int .i64 42)).setCell ⟨g, 0, none⟩ (.slice A n c)) 38 g b 42 l ∧ Only g w ((w1.setCell ⟨g, 1, none⟩ (.int .i64 42)).setCell ⟨g, 0, none⟩ (.slice A n c)) := fun w1 ho A1 n1 c1 hr1 => by
      have h2 := Only.setCell g 1 w1 (.int .i64 42)
      exact ⟨back (row2_set1 hr1 _) (HB.out.only (HI.out.apart hbg) (ho.trans h2)) hnc HI.out hbg, (ho.trans h2).trans (Only.setCell g 0 _ _)⟩
    have HOut := Lib.hid hout
    clear hout
    by_cases h0 : most < 0
    · go_enter Try.func28, Try.ntmps28
      go_wp2_with (go_at_call 23; refine HN.out.mono ?_; rintro e w1 ⟨rfl, ⟨A1, n1, c1, hr1, hrest⟩, h2⟩; have k1 : w1.cell? ⟨g, 1, none⟩ = some (.int .i64 0) := hr1.cell 1; have f1 := hr1.frozen 1; have k0 := (row2_set1 hr1 (.int .i64 42)).cell 0; have f0 := (row2_set1 hr1 (.int .i64 42)).frozen 0; simp only [List.getElem?_toArray, List.getElem?_cons_zero] at k0; have H1 := Lib.hid hr1; clear hr1 hrest)
      go_ret
      rw [HQ.out]
      have ho := HOut.out w1 h2 A1 n1 c1 H1.out
      exact ⟨none, 0, rfl, Nat.le_refl _, OwnL.nil _ _, ho.1, ho.2⟩
    · go_enter Try.func28, Try.ntmps28
      go_wp2_with (go_at_call 23; refine HN.out.mono ?_; rintro e w1 ⟨rfl, ⟨A1, n1, c1, hr1, hrest⟩, h2⟩; have k1 : w1.cell? ⟨g, 1, none⟩ = some (.int .i64 0) := hr1.cell 1; have f1 := hr1.frozen 1; have k0 := (row2_set1 hr1 (.int .i64 42)).cell 0; have f0 := (row2_set1 hr1 (.int .i64 42)).frozen 0; simp only [List.getElem?_toArray, List.getElem?_cons_zero] at k0; have H1 := Lib.hid hr1; clear hr1 hrest)
      go_ret
      rw [HQ.out]
      have ho := HOut.out w1 h2 A1 n1 c1 H1.out
      exact ⟨none, 0, rfl, Nat.le_refl _, OwnL.nil _ _, ho.1, ho.2⟩
  have h0 : ¬ most < 0 := by omega
  have HQ := Lib.hid (show sList 0 l most each = pre [] S1 (rdTexts each V1 (l.drop S1)) by
    have e : rdLen l most = (0, V1, S1) := by rw [HD.out, if_pos rfl, if_neg hmo]
    rw [HS.out, rdList_pre l most each (by rw [e]), e])
  have HLn := Lib.hid hn
  have hnb : n ≤ 1000000000 := by omega
  have HTX := Lib.hid (fun s wr h => RefText_r g b 0 (l.drop s) each wr h (by rw [List.length_drop]; omega) he he0)
  generalize sList 0 l most each = q at *
  clear HD HS hq hn
  go_enter Try.func28, Try.ntmps28
  go_wp2_with (go_at_call 23; refine HN.out.mono ?_; rintro e w1 ⟨rfl, h1, h2⟩; have H1 := Lib.hid h1; have H2 := Lib.hid h2; obtain ⟨A1, n1, c1, hr1, hrest⟩ := h1; have k1 : w1.cell? ⟨g, 1, none⟩ = some (.int .i64 0) := hr1.cell 1; clear hr1 hrest h2)
  go_loopw [9] (fun o wr => ∃ (k s : Nat) (A1 : Option Addr) (c1 : Nat) (acc : List (List UInt8)), k ≤ V1 ∧ o = .slice A1 k c1 ∧ k ≤ s ∧ s ≤ n ∧ Only g w wr ∧ Rdr wr 38 g b 0 (l.drop s) ∧ OwnL wr w.heap.size (.slice A1 k c1) k acc ∧ Hid (q = pre acc s (rdTexts each (V1 - k) (l.drop s)))) (fun o _ => V1 - lenV o)
  case atStart => exact ⟨0, S1, none, 0, [], Nat.zero_le _, rfl, Nat.zero_le _, hsz, H2.out, H1.out, OwnL.nil _ _, HQ⟩
  case round =>
    obtain ⟨k, s, A2, c2, acc, hk, rfl, hks, hsn, ho, hrd, hown, HQ2⟩ := hrel
    have hsw := ho.size
    by_cases hlt2 : k < V1
    · have HO := Lib.hid hown
      have HOn := Lib.hid ho
      have HT := Lib.hid (HTX.out s wr hrd)
      obtain ⟨E3, T3, S3, hq3⟩ := triple (rdText (l.drop s) each)
      have hok3 := rdText_ok (l.drop s) each
      have hsz3 := rdText_size (l.drop s) each
      rw [hq3, List.length_drop, HLn.out] at hsz3
      rw [hq3] at hok3
      simp only at hok3 hsz3
      rw [show sText 0 (l.drop s) each = rdText (l.drop s) each from rfl, hq3] at HT
      unfold RText at HT
      simp only [List.drop_drop] at HT
      have hVk : V1 - k = V1 - (k + 1) + 1 := by omega
      have hkV : (k : Int) < (V1 : Int) := by omega
      by_cases hS3 : S3 = 0
      · have hE3 : E3 ≠ 0 := fun h => absurd hS3 (hok3.1 h)
        have HQ3 := Lib.hid (show q = (E3, [], 0) by rw [HQ2.out, hVk, pre_step_no _ _ _ _ _ (by rw [hq3]; exact hE3), hq3])
        have hE4 := bne0 hE3
        clear HQ2 HQ hq3 hok3 hE3 hown hrd ho hS3
        go_wp2_with (go_at_call 25; refine HT.out.mono ?_; rintro e w3 ⟨A3, c3, rfl, hc3, ho3, ⟨A4, n4, c4, hr4, hrest⟩, hon3⟩; have k3 : w3.cell? ⟨g, 1, none⟩ = some (.int .i64 E3) := hr4.cell 1; have k30 : w3.cell? ⟨g, 0, none⟩ = some (.slice A4 n4 c4) := hr4.cell 0; have f3 := hr4.frozen 0; have H4 := Lib.hid hr4; clear hr4 hrest)
        go_ret
        rw [HQ3.out]
        have ho9 := HOn.out.trans hon3
        exact ⟨none, 0, rfl, Nat.le_refl _, OwnL.nil _ _, back H4.out (HB.out.only (HI.out.apart hbg) ho9) hnc HI.out hbg, ho9.trans (Only.setCell g 0 _ _)⟩
      · obtain rfl : E3 = 0 := hok3.2 hS3
        have HQ3 := Lib.hid (show q = pre (acc ++ [T3]) (s + S3) (rdTexts each (V1 - (k + 1)) (l.drop (s + S3))) by rw [HQ2.out, hVk, pre_step_ok _ _ _ _ _ (by rw [hq3]), hq3, List.drop_drop])
        clear HQ2 HQ hq3 hok3 hown hrd ho
        go_wp2_with (first
          | (go_at_call 25; refine HT.out.mono ?_; rintro e w3 ⟨A3, c3, rfl, hc3, ho3, hrd3, hon3⟩; have hs3 := hon3.size; have H3 := Lib.hid hrd3; obtain ⟨A4, n4, c4, hr4, hrest⟩ := hrd3; have k3 : w3.cell? ⟨g, 1, none⟩ = some (.int .i64 0) := hr4.cell 1; clear hr4 hrest)
          | (at_builtin; refine wpList_appT rfl (.tmp 54) (.tmp 56) rfl w.heap.size (.slice A2 k c2) k acc rfl (HO.out.only hon3 hgw) (.slice A3 T3.length c3) T3 (ho3.mono hsw) (by omega) (by omega) rfl ?_; intro A5 c5 w5 ho5 hb5))
        go_roundw
        case rel => exact ⟨k + 1, s + S3, A5, c5, _, by omega, rfl, by omega, by omega, (HOn.out.trans hon3).then_below hb5, H3.out.belowB hb5 hgw (fun hne => HBW.out (fun h => hne (by rw [h]; simp))), ho5, HQ3⟩
        case measure => simp [lenV]; omega
    · obtain rfl : k = V1 := by omega
      have HO := Lib.hid hown
      have HQ3 := Lib.hid (show q = (0, acc, s) by rw [HQ2.out, Nat.sub_self, pre_zero])
      have HR := Lib.hid hrd
      have HOn := Lib.hid ho
      have hkk : ¬ ((k : Int) < (k : Int)) := by omega
      clear HQ2 HQ hown hrd ho
      go_wp2
      go_ret
      rw [HQ3.out]
      have hlen := HO.out.length
      subst hlen
      obtain ⟨A', c', hv, hc⟩ := HO.out.form
      injection hv with q1 q2 q3
      subst q1 q3
      exact ⟨_, _, rfl, hc, HO.out, HR.out, HOn.out⟩
end Go.Proofs.Ytjifahocfbbicaa
