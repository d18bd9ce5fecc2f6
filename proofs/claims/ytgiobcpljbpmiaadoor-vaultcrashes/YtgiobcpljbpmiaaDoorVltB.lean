/-
  A frame of a number and a text; such a frame's record read; what stands in a file's frames.
-/
import Derived.Test.YtgiobcpljbpmiaaDoorVltA
namespace Go.Proofs.YtgiobcpljbpmiaaDoor
open Go.RowKit
set_option maxRecDepth 100000 in
set_option maxHeartbeats 2000000 in
theorem frame_any (g n c : Nat) (A : Option Addr) (t : List UInt8) (w : World) (hB : Bs w A n t) (hok : okV (g, t)) (hT : Tab 2 w) :
    Calls Tryd.prog 52 #[.agg #[.int .i64 (g : Int), .slice A n c]] w (S4NewSlice w (vFr (g, t))) := by
  have h1 := hok.1
  have h2 := hok.2
  have h3 := hok.text
  simp only at h1 h2 h3
  obtain rfl : t.length = n := hB.1
  have hb0 : Below w.heap.size w (w.alloc (.cells #[.int .i64 (g : Int), .slice A t.length c] 68)) := (Below.refl _ _).alloc (Nat.le_refl _) _
  have HX0 := Lib.hid (Row.new w 68 #[.int .i64 (g : Int), .slice A t.length c])
  have HB := Lib.hid (hB.below hb0)
  have HT := Lib.hid (hT.below hb0)
  have HN := Lib.hid (fun w => Num_any g w (by omega))
  have HX := Lib.hid (fun w hB => Text_any A t.length c t w hB (by omega))
  have HW := Lib.hid (fun A c w hB hT => Wrap_any A ((numB g).length + (textB t).length) c (numB g ++ textB t) w hB (by rw [← List.length_append]; exact h2) hT)
  have HGZ := Lib.hid (show (0 : Int) ≤ (g : Int) ∧ (g : Int) < 9223372036854775808 by omega)
  have HLN := Lib.hid (show (numB g).length + (textB t).length ≤ 140737488355328 by rw [← List.length_append]; exact Nat.le_trans h2 (by omega))
  obtain ⟨wz, hwz⟩ : ∃ wz, w.alloc (.cells #[.int .i64 (g : Int), .slice A t.length c] 68) = wz := ⟨_, rfl⟩
  have hltz : w.heap.size < wz.heap.size := by rw [← hwz]; simp
  rw [hwz] at hb0 HX0 HB HT
  have KP : Hid (∀ wq, Below wz.heap.size wz wq → Row wq w.heap.size 68 #[.int .i64 (g : Int), .slice A t.length c]) := Lib.hid (fun wq hb => HX0.out.below hb hltz)
  unfold vFr vRec
  obtain ⟨m, hm⟩ : ∃ m, t.length = m := ⟨_, rfl⟩
  rw [hm] at HB HX KP hwz
  rw [hm]
  clear hB hok hT h1 h2 h3 HX0
  generalize hNB : numB g = NB at *
  generalize hTB : textB t = TB at *
  clear hNB hTB hm
  go_enter Tryd.func52, Tryd.ntmps52
  go_wp2_with fail
  clear hwz
  have Z0 : Below wz.heap.size wz wz.drew := (Below.refl wz.heap.size wz).drew
  refine wp_region_noPanic ?_
  refine wp_region_held_drew (S := fun w' => Row w' w.heap.size 68 #[.int .i64 (g : Int), .slice A m c]) (by kernel_rfl) (KP.out _ Z0) (fun hHeld => ?_)
  refine takeD (i := 0) (some 6) (.pointer (some ⟨w.heap.size, 0, none⟩)) rfl rfl (by kernel_rfl) (by kernel_rfl) (by kernel_rfl) (fun _ _ _ h => h) (yields_fldV (by rfl) 68 (.tmp 1) 0 rfl (d := 0) (by decide) (w.heap.size) 0 _ rfl rfl) hHeld ?_
  simp only [Act.put, List.setIfInBounds_toArray, List.set_cons_zero, List.set_cons_succ]
  refine takeD (i := 1) (some 7) (.int .i64 (g : Int)) rfl rfl (by kernel_rfl) (by kernel_rfl) (by kernel_rfl) (fun _ _ _ h => h) (yieldsC (by rfl) 3 (.tmp 6) rfl (by decide) (w.heap.size) (0) _ rfl (fun _ h => h.cell 0)) hHeld ?_
  simp only [Act.put, List.setIfInBounds_toArray, List.set_cons_zero, List.set_cons_succ]
  refine takeD (i := 2) (some 8) (.int .u64 (g : Int)) rfl rfl (by kernel_rfl) (by kernel_rfl) (by kernel_rfl) (fun _ _ _ h => h) (yields_conv (by rfl) (.tmp 7) rfl ((g : Int)) rfl HGZ.out) hHeld ?_
  simp only [Act.put, List.setIfInBounds_toArray, List.set_cons_zero, List.set_cons_succ]
  refine takeD (i := 4) (some 10) (.pointer (some ⟨w.heap.size, 1, none⟩)) rfl rfl (by kernel_rfl) (by kernel_rfl) (by kernel_rfl) (fun _ _ _ h => h) (yields_fldV (by rfl) 68 (.tmp 1) 1 rfl (d := 1) (by decide) (w.heap.size) 0 _ rfl rfl) hHeld ?_
  simp only [Act.put, List.setIfInBounds_toArray, List.set_cons_zero, List.set_cons_succ]
  refine takeD (i := 5) (some 11) (.slice A m c) rfl rfl (by kernel_rfl) (by kernel_rfl) (by kernel_rfl) (fun _ _ _ h => h) (yieldsC (by rfl) 32 (.tmp 10) rfl (by decide) (w.heap.size) (1) _ rfl (fun _ h => h.cell 1)) hHeld ?_
  simp only [Act.put, List.setIfInBounds_toArray, List.set_cons_zero, List.set_cons_succ]
  refine wpAnyH_ready (rs := [3]) (by kernel_rfl) (by decide) ?_
  refine AllReadyH.cons rfl (fun K' hK => ?_) AllReadyH.nil
  go_simp
  refine (HN.out wz.drew).mono ?_
  rintro e3 w3 ⟨A3, c3, rfl, hc3, hb3, ho3⟩
  have B3 : Below wz.heap.size wz w3 := Z0.trans hb3
  have HO3 := Lib.hid ho3
  clear ho3 hc3
  refine hK.out _ _ (KP.out _ B3) (fun hHeld1 => ?_)
  clear hK
  refine wpAnyH_ready (rs := [6]) (by kernel_rfl) (by decide) ?_
  refine AllReadyH.cons rfl (fun K' hK => ?_) AllReadyH.nil
  go_simp
  refine (HX.out w3 (HB.out.below B3)).mono ?_
  rintro e4 w4 ⟨A4, c4, rfl, hc4, hb4, ho4⟩
  have B4 : Below wz.heap.size wz w4 := B3.trans (hb4.mono B3.size)
  have HO4 := Lib.hid ho4
  have HO34 := Lib.hid (HO3.out.below hb4)
  clear ho4 hc4
  refine hK.out _ _ (KP.out _ B4) (fun hHeld2 => ?_)
  clear hK
  refine wpAnyH_ready (rs := [7]) (by kernel_rfl) (by decide) ?_
  refine AllReadyH.cons rfl (fun K' hK => ?_) AllReadyH.nil
  refine step_of rfl (wp_appB (.tmp 9) (.tmp 12) rfl wz.drew.heap.size (.slice A3 NB.length c3) NB.length NB rfl HO34.out A4 TB.length c4 TB rfl HO4.out.bs HLN.out (Nat.le_trans hb3.size hb4.size) ?_)
  intro A5 c5 w5 ho5 hb5
  have B5 : Below wz.heap.size wz w5 := B4.trans hb5
  have HO5 := Lib.hid ho5
  clear ho5
  refine hK.out _ _ (KP.out _ B5) (fun hHeld3 => ?_)
  clear hK
  (try simp only [List.getElem_toArray, List.getElem_cons_succ, List.getElem_cons_zero, Act.put, List.setIfInBounds_toArray, List.set_cons_zero, List.set_cons_succ])
  refine wpAnyH_ready (rs := [8]) (by kernel_rfl) (by decide) ?_
  refine AllReadyH.cons rfl (fun K' hK => ?_) AllReadyH.nil
  go_simp
  refine (HW.out A5 c5 w5 HO5.out.bs (HT.out.below B5)).mono ?_
  rintro e6 w6 ⟨A6, c6, rfl, hc6, hb6, ho6⟩
  have B6 : Below wz.heap.size wz w6 := B5.trans (hb6.mono B5.size)
  have HO6 := Lib.hid ho6
  clear ho6
  refine hK.out _ _ (KP.out _ B6) (fun hHeld4 => ?_)
  clear hK
  refine takeD (i := 9) (some 5) (.tuple #[.slice A6 (frB (NB ++ TB)).length c6, .int .i64 0]) rfl rfl (by kernel_rfl) (by kernel_rfl) (by kernel_rfl) (fun _ _ _ h => h) (Or.inl ⟨by rfl, fun _ _ => rfl⟩) hHeld4 ?_
  simp only [Act.put, List.setIfInBounds_toArray, List.set_cons_zero, List.set_cons_succ]
  refine takeD (i := 10) (some 15) (.slice A6 (frB (NB ++ TB)).length c6) rfl rfl (by kernel_rfl) (by kernel_rfl) (by kernel_rfl) (fun _ _ _ h => h) (Or.inl ⟨by rfl, fun _ _ => rfl⟩) hHeld4 ?_
  simp only [Act.put, List.setIfInBounds_toArray, List.set_cons_zero, List.set_cons_succ]
  refine takeD (i := 11) (some 16) (.int .i64 0) rfl rfl (by kernel_rfl) (by kernel_rfl) (by kernel_rfl) (fun _ _ _ h => h) (Or.inl ⟨by rfl, fun _ _ => rfl⟩) hHeld4 ?_
  simp only [Act.put, List.setIfInBounds_toArray, List.set_cons_zero, List.set_cons_succ]
  refine takeD (i := 12) (some 3) (.slice A6 (frB (NB ++ TB)).length c6) rfl rfl (by kernel_rfl) (by kernel_rfl) (by kernel_rfl) (fun _ _ _ h => h) (Or.inl ⟨by rfl, fun _ _ => rfl⟩) hHeld4 ?_
  simp only [Act.put, List.setIfInBounds_toArray, List.set_cons_zero, List.set_cons_succ]
  refine takeD (i := 13) (some 4) (.int .i64 0) rfl rfl (by kernel_rfl) (by kernel_rfl) (by kernel_rfl) (fun _ _ _ h => h) (Or.inl ⟨by rfl, fun _ _ => rfl⟩) hHeld4 ?_
  simp only [Act.put, List.setIfInBounds_toArray, List.set_cons_zero, List.set_cons_succ]
  (try simp only [Act.put, List.setIfInBounds_toArray])
  refine wpAnyH_done (by kernel_rfl) ?_ _
  refine NoPanic.normal ?_
  go_wp2_with fail
  go_ret
  exact ⟨A6, c6, rfl, hc6, hb0.trans (B6.mono hb0.size), HO6.out.mono (Nat.le_trans hb0.size B5.size)⟩
/-- what a record says: a number and a text, if it is so -/
def PartE (w : World) (l : List UInt8) (e : Ending) (w' : World) : Prop :=
  ∃ (ok : Bool) (g : Nat) (t : List UInt8) (A : Option Addr) (c : Nat), e = .returned (.tuple #[.agg #[.int .i64 (g : Int), .slice A t.length c], .bool ok]) ∧ (partP l).1 = ok ∧ (ok = true → partP l = (true, g, t)) ∧ t.length ≤ c ∧ Own w' w.heap.size 5 (.slice A t.length c) t.length t ∧ Below w.heap.size w w'
theorem one2 (z : Int) (A : Option Addr) (n c : Nat) : (#[.int .i64 z, .slice A n c] : Array Value).all (·.oneCell') = true := by simp [Value.oneCell']
theorem size2 (z : Int) (A : Option Addr) (n c : Nat) : (#[.int .i64 z, .slice A n c] : Array Value).size = 2 := rfl
theorem Tryd.agg68 : AggType Tryd.prog 68 2 := ⟨_, Tryd.underlying68, rfl, by kernel_rfl⟩
set_option maxRecDepth 100000 in
set_option maxHeartbeats 2000000 in
theorem read_any (A : Option Addr) (n c : Nat) (l : List UInt8) (w : World) (hB : Bs w A n l) (hn : n ≤ 100000000) : Calls Tryd.prog 51 #[.slice A n c] w (PartE w l) := by
  have hl := hB.1
  have hb0 : Below w.heap.size w (w.alloc (.cells #[.int .i64 0, .slice none 0 0] 68)) := (Below.refl _ _).alloc (Nat.le_refl _) _
  have HX0 := Lib.hid (Row.new w 68 #[.int .i64 0, .slice none 0 0])
  have HB := Lib.hid (hB.below hb0)
  have HR := Lib.hid (fun w hB => Read_any A n c l w hB (by omega))
  obtain ⟨E1, g, S1, hq1⟩ := triple (sNum 0 l 1099511627776)
  obtain ⟨E2, t, S2, hq2⟩ := triple (sText E1 (l.drop S1) 262144)
  have hgl := sNum_le l 1099511627776 (by omega)
  rw [hq1] at hgl
  simp only at hgl
  have HP := Lib.hid (partP_read l E1 g S1 E2 t S2 hq1 hq2)
  have HN := Lib.hid (fun g' b w h => RNum_any g' b 0 l 1099511627776 w h (by rw [hl]; omega) (by omega) (by omega))
  have HX := Lib.hid (fun g' b w h => RText_any g' b E1 (l.drop S1) 262144 w h (by rw [List.length_drop, hl]; omega) (by omega))
  rw [hq1] at HN
  rw [hq2] at HX
  unfold RNum at HN
  unfold RText at HX
  simp only at HN HX
  obtain ⟨k, hk⟩ : ∃ k, t.length = k := ⟨_, rfl⟩
  have HK := Lib.hid hk
  rw [hk] at HX
  have hwr : wrap64 (g : Int) = g := by unfold wrap64; omega
  obtain ⟨E3, hE3⟩ : ∃ E3, sEnd E2 ((l.drop S1).drop S2) = E3 := ⟨_, rfl⟩
  have HE := Lib.hid (fun g' b w h => REnd_any g' b E2 ((l.drop S1).drop S2) w h)
  unfold REnd at HE
  rw [hE3] at HE HP
  obtain ⟨wz, hwz⟩ : ∃ wz, w.alloc (.cells #[.int .i64 0, .slice none 0 0] 68) = wz := ⟨_, rfl⟩
  have hltz : w.heap.size < wz.heap.size := by rw [← hwz]; simp
  rw [hwz] at hb0 HX0 HB
  have HZ := Lib.hid (fun w5 (hb : Below wz.heap.size wz w5) => HX0.out.below hb hltz)
  have HC := Lib.hid hb0
  clear hB hl hq1 hq2 hk hE3 HX0
  by_cases h0 : E3 = 0
  · subst h0
    have HP1 := Lib.hid (HP.out.1 rfl)
    clear HP
    go_enter Tryd.func51, Tryd.ntmps51
    go_wp2_with fail
    clear hwz
    go_wp2_with (first
      | (go_at_call 65; refine (HR.out wz HB.out).mono ?_; rintro e1 w1 ⟨gr, br, rfl, hgr, hbr, hr1, hb1⟩; have HR1 := Lib.hid hr1; have hgr' : wz.heap.size ≤ gr := hgr; have hs1 := hb1.size; clear hr1)
      | (go_at_call 66; refine (HN.out gr br w1 HR1.out).mono ?_; rintro e2 w2 ⟨rfl, hr2, ho2⟩; have HR2 := Lib.hid hr2; have hb2 : Below wz.heap.size wz w2 := hb1.trans (ho2.below hgr' hs1); clear hr2)
      | (go_at_call 67; refine (HX.out gr br w2 HR2.out).mono ?_; rintro e3 w3 ⟨A3, c3, rfl, hc3, ho3, hr3, hon3⟩; have HR3 := Lib.hid hr3; have HO3 := Lib.hid ho3; have hb3 : Below wz.heap.size wz w3 := hb2.trans (hon3.below hgr' hb2.size); have hgr3 : gr < w2.heap.size := HR2.out.lt; clear hr3 ho3)
      | (go_at_call 68; refine (HE.out gr br w3 HR3.out).mono ?_; rintro e5 w5 ⟨rfl, hr5, hon5⟩; have hb5 : Below wz.heap.size wz w5 := hb3.trans (hon5.below hgr' hb3.size); have HO5 := Lib.hid (own_only HO3.out hon5 hgr3); have HZ5 := Lib.hid (HZ.out w5 hb5); clear hr5)
      | ((with_reducible refine wpList_store_row Tryd.agg68 rfl (.tmp 2) (.tmp 20) rfl w.heap.size #[.int .i64 (g : Int), .slice A3 k c3] rfl rfl 68 #[.int .i64 0, .slice none 0 0] HZ5.out (size2 _ _ _ _) (size2 _ _ _ _) (one2 _ _ _ _) ?_); intro w9 hr9 ho9; have HR9 := Lib.hid hr9; clear hr9))
    refine bodyPost_ret (results_row2 Tryd.agg68 Tryd.results51 rfl rfl HR9.out rfl) rfl ?_
    exact ⟨true, g, t, A3, c3, by rw [HK.out]; rfl, by rw [HP1.out], fun _ => HP1.out, by rw [HK.out]; exact hc3, by rw [HK.out]; exact Own.mono (own_only HO5.out ho9 (Nat.lt_of_lt_of_le hltz hb2.size)) (Nat.le_trans hb0.size hb2.size), hb0.trans ((hb5.mono hb0.size).trans (ho9.below (Nat.le_refl _) (Nat.le_trans hb0.size hb5.size)))⟩
  · have HP1 := Lib.hid (HP.out.2 h0)
    have h0b := bne0 h0
    clear HP
    go_enter Tryd.func51, Tryd.ntmps51
    go_wp2_with fail
    clear hwz
    go_wp2_with (first
      | (go_at_call 65; refine (HR.out wz HB.out).mono ?_; rintro e1 w1 ⟨gr, br, rfl, hgr, hbr, hr1, hb1⟩; have HR1 := Lib.hid hr1; have hgr' : wz.heap.size ≤ gr := hgr; have hs1 := hb1.size; clear hr1)
      | (go_at_call 66; refine (HN.out gr br w1 HR1.out).mono ?_; rintro e2 w2 ⟨rfl, hr2, ho2⟩; have HR2 := Lib.hid hr2; have hb2 : Below wz.heap.size wz w2 := hb1.trans (ho2.below hgr' hs1); clear hr2)
      | (go_at_call 67; refine (HX.out gr br w2 HR2.out).mono ?_; rintro e3 w3 ⟨A3, c3, rfl, hc3, ho3, hr3, hon3⟩; have HR3 := Lib.hid hr3; have HO3 := Lib.hid ho3; have hb3 : Below wz.heap.size wz w3 := hb2.trans (hon3.below hgr' hb2.size); have hgr3 : gr < w2.heap.size := HR2.out.lt; clear hr3 ho3)
      | (go_at_call 68; refine (HE.out gr br w3 HR3.out).mono ?_; rintro e5 w5 ⟨rfl, hr5, hon5⟩; have hb5 : Below wz.heap.size wz w5 := hb3.trans (hon5.below hgr' hb3.size); have HO5 := Lib.hid (own_only HO3.out hon5 hgr3); have HZ5 := Lib.hid (HZ.out w5 hb5); clear hr5)
      | ((with_reducible refine wpList_store_row Tryd.agg68 rfl (.tmp 2) (.tmp 16) rfl w.heap.size #[.int .i64 0, .slice none 0 0] rfl rfl 68 #[.int .i64 0, .slice none 0 0] HZ5.out (size2 _ _ _ _) (size2 _ _ _ _) (one2 _ _ _ _) ?_); intro w9 hr9 ho9; have HR9 := Lib.hid hr9; clear hr9))
    refine bodyPost_ret (results_row2 Tryd.agg68 Tryd.results51 rfl rfl HR9.out rfl) rfl ?_
    exact ⟨false, 0, [], none, 0, rfl, HP1.out, fun h => (nomatch h), Nat.le_refl _, Own.nil _ _ _, hb0.trans ((hb5.mono hb0.size).trans (ho9.below (Nat.le_refl _) (Nat.le_trans hb0.size hb5.size)))⟩
end Go.Proofs.YtgiobcpljbpmiaaDoor
