/-
  TreeHalves, whole, as the tied card (Rows.TreeHalvesCardSaid): for every list of digests, of the first ones (as many as a power of two, at most 64, or one digest where there is none) the root is the leaf, where there is one, else the node above the roots of both halves; and of two leaves the root is the node above them. Conditions: the table sha.constants reads as its initialiser lays it (tied to the program's text).
-/
import Derived.Test.YtiidcnjhjojhoaaDoorRows
import Derived.Test.YtiidcnjhjojhoaaDoorCards
import Derived.Test.YtiidcnjhjojhoaaDoorTie
import Derived.WalkKit
import Derived.ProofKit
import Derived.OpenShut
import Derived.ChangeMaps5
import Derived.ShutString
import Derived.ChangeOld
import Derived.Below
import Derived.SizedLaws
import Derived.SevenTiedAt
import Derived.Lay
import Derived.LaidLaws
import Derived.Test.YtiidcnjhjojhoaaDoorLaid
import Derived.Test.YtiidcnjhjojhoaaDoorOpens
import Derived.Test.YtiidcnjhjojhoaaDoorLive
namespace Go.Proofs.YtiidcnjhjojhoaaDoor.treeHalves
open Go.ChangeShapes Go.WideShapes Go.ChangeAt Go.RowKit
open Go.ChangeMaps (open_string shut_string)
set_option linter.unusedVariables false
theorem own : ownKnob Tryd.prog.godebug = none := by kernel_rfl
theorem laidOut : laidOutB Tryd.prog = true := by kernel_rfl
theorem half_in {k m : Nat} {M : List (List UInt8)} (hk : k + 1 ≤ 6) (hm : m = 2 ^ (k + 1)) (hl : M.length = m) (hD : Digs M) :
    ∃ (h : Nat) (R X Y : List UInt8), m = 2 * h ∧ 0 < h ∧ h ≤ 32 ∧ R = abL X Y ∧ R.length = 32 ∧ X.length = 32 ∧ Y.length = 32 ∧
      (∀ A c wq, Ds wq A m M → Tab 1 wq → Calls Tryd.prog 10 #[.slice A m c] wq (RecD wq R 0)) ∧
      (∀ A c wq, Ds wq A h (M.take h) → Tab 1 wq → Calls Tryd.prog 10 #[.slice A h c] wq (RecD wq X 0)) ∧
      (∀ A c wq, Ds wq A h (M.drop h) → Tab 1 wq → Calls Tryd.prog 10 #[.slice A h c] wq (RecD wq Y 0)) := by
  have e : 2 ^ (k + 1) = 2 * 2 ^ k := by rw [Nat.pow_succ]; omega
  have q : 2 ^ (k + 1) ≤ 2 ^ 6 := Nat.pow_le_pow_right (by decide) hk
  have l1 : (M.take (2 ^ k)).length = 2 ^ k := by rw [List.length_take]; omega
  have l2 : (M.drop (2 ^ k)).length = 2 ^ k := by rw [List.length_drop]; omega
  refine ⟨2 ^ k, rootD (k + 1) M, rootD k (M.take (2 ^ k)), rootD k (M.drop (2 ^ k)), by omega, Nat.pow_pos (by decide), by omega, rfl, abL_length _ _, rootD_length k _ (hD.take _) l1, rootD_length k _ (hD.dropL _) l2, fun A c wq h1 h2 => Root_ok (k + 1) A m c M wq (by omega) hm h1 h2, fun A c wq h1 h2 => Root_ok k A (2 ^ k) c _ wq (by omega) rfl h1 h2, fun A c wq h1 h2 => Root_ok k A (2 ^ k) c _ wq (by omega) rfl h1 h2⟩
set_option maxRecDepth 100000 in
set_option maxHeartbeats 4000000 in
theorem walk (w : World) (a0 : Option Addr) (len0 cap0 : Nat) (l0 : List (List UInt8)) (w0 : Ds w a0 len0 l0) (s0 : len0 ≤ cap0) (hT : Tab 1 w) :
    Calls Tryd.prog 7 #[.slice a0 len0 cap0] w fun e w' => e = .returned (.bool true) ∧ Below w.heap.size w w' := by
  have HC := Lib.hid (cut_any a0 len0 cap0 l0 w s0 w0)
  have HT := Lib.hid hT
  clear w0 hT
  go_enter Tryd.func7, Tryd.ntmps7
  go_wp2_with (go_at_call 20; refine HC.out.mono ?_; rintro e1 w1 ⟨k, m, A1, c1, M, hk, hm, rfl, hc1, hd1, hb1⟩; have HD1 := Lib.hid hd1; have HM := Lib.hid hm; clear hd1 hm)
  rcases k with _ | k
  · have hm1 : m = 1 := HM.out
    subst hm1
    obtain ⟨b, off, R, rfl, _, hgd, hRl, hB⟩ := HD1.out.get (k := 0) (by omega)
    have hR : rootD 0 M = R := by show M.getD 0 [] = R; rw [List.getD_eq_getElem?_getD, hgd]; rfl
    have HRT := Lib.hid (fun A c wq hD hT => show Calls Tryd.prog 10 #[.slice A 1 c] wq (RecD wq R 0) by have q := Root_ok 0 A 1 c M wq (by omega) rfl hD hT; rwa [hR] at q)
    have HBD := Lib.hid hB
    have HRL := Lib.hid hRl
    have HRS := Lib.hid (show (bcells R).size = 32 by rw [bcells_size]; exact hRl)
    obtain ⟨o1, ho1⟩ : ∃ o, off + 32 * 0 = o := ⟨_, rfl⟩
    rw [ho1] at HBD
    have HO1 := Lib.hid ho1
    clear hgd hB hR hRl ho1
    refine (own_any _ 1 c1 M w1 HD1.out (by omega)).mono ?_
    rintro e2 w2 ⟨A2, c2, rfl, hc2, hd2, hb2⟩
    have HD2 := Lib.hid hd2
    have hb2' := hb1.trans (hb2.mono hb1.size)
    clear hd2
    go_wp2_with (first
      | (go_at_call 10; refine (HRT.out A2 c2 w2 HD2.out (HT.out.below hb2')).mono ?_; rintro e3 w3 ⟨rfl, hb3⟩; have hb3' := hb2'.trans (hb3.mono hb2'.size))
      | (with_reducible refine wpList_store_row Tryd.agg25 rfl (.tmp 3) (.tmp 15) rfl _ _ rfl rfl 24 lit32 (Row.new w3 24 lit32) HRS.out lit32_size (bcells_one _) ?_; intro w4 hr4 ho4; have HR4 := Lib.hid hr4; have b4 : Below w3.heap.size w3 w4 := ((Below.refl _ _).alloc (Nat.le_refl _) _).trans (ho4.below (Nat.le_refl _) (by simp)); have hb4' := hb3'.trans (b4.mono hb3'.size); have HB4 := Lib.hid (((HBD.out.below hb2).below hb3).below b4); clear hr4))
    obtain ⟨g3, hg3⟩ : ∃ g, g = w3.heap.size := ⟨_, rfl⟩
    rw [← hg3] at HR4 ⊢
    clear hg3
    have B0 : Below w4.heap.size w4 w4.drew := (Below.refl w4.heap.size w4).drew
    have KP : Hid (∀ wq, Below w4.heap.size w4 wq → wq.rangeAt g3 0 (R.map bcell) ∧ wq.rangeAt b o1 (R.map bcell)) := Lib.hid (fun wq hb => ⟨range_row (HR4.out.below hb HR4.out.lt), (HB4.out.below hb).range⟩)
    refine wp_region_noPanic ?_
    refine wp_region_held_drew (S := fun w' => w'.rangeAt g3 0 (R.map bcell) ∧ w'.rangeAt b o1 (R.map bcell)) (by kernel_rfl) (KP.out _ B0) (fun hHeld => ?_)
    refine takeD (i := 0) (some 20) (.int .i64 0) rfl rfl (by kernel_rfl) (by kernel_rfl) (by kernel_rfl) (fun _ _ _ h => h) (Or.inl ⟨by rfl, fun _ _ => rfl⟩) hHeld ?_
    simp only [Act.put, List.setIfInBounds_toArray, List.set_cons_zero, List.set_cons_succ]
    refine takeD (i := 1) (some 21) (.bool true) rfl rfl (by kernel_rfl) (by kernel_rfl) (by kernel_rfl) (fun _ _ _ h => h) (yields_eqE (by rfl) (.tmp 20) _ rfl 0 0 true rfl rfl rfl) hHeld ?_
    simp only [Act.put, List.setIfInBounds_toArray, List.set_cons_zero, List.set_cons_succ]
    refine takeD (i := 2) (some 22) (.bool true) rfl rfl (by kernel_rfl) (by kernel_rfl) (by kernel_rfl) (fun _ _ _ h => h) (Or.inl ⟨by rfl, fun _ _ => rfl⟩) hHeld ?_
    simp only [Act.put, List.setIfInBounds_toArray, List.set_cons_zero, List.set_cons_succ]
    refine takeD (i := 3) (some 23) (.agg (bcells R)) rfl rfl (by kernel_rfl) (by kernel_rfl) (by kernel_rfl) (fun _ _ _ h => h) (yields_loadW (by rfl) (.tmp 3) rfl g3 0 R rfl (fun _ h => h.1) HRL.out) hHeld ?_
    simp only [Act.put, List.setIfInBounds_toArray, List.set_cons_zero, List.set_cons_succ]
    refine takeD (i := 4) (some 24) (.slice (some ⟨b, off, none⟩) 1 c1) rfl rfl (by kernel_rfl) (by kernel_rfl) (by kernel_rfl) (fun _ _ _ h => h) (Or.inl ⟨by rfl, fun _ _ => rfl⟩) hHeld ?_
    simp only [Act.put, List.setIfInBounds_toArray, List.set_cons_zero, List.set_cons_succ]
    refine takeD (i := 5) (some 25) (.pointer (some ⟨b, o1, none⟩)) rfl rfl (by kernel_rfl) (by kernel_rfl) (by kernel_rfl) (fun _ _ _ h => h) (yields_indexW (by rfl) (.tmp 24) _ rfl b off 1 c1 0 o1 _ rfl rfl rfl (by omega) HO1.out) hHeld ?_
    simp only [Act.put, List.setIfInBounds_toArray, List.set_cons_zero, List.set_cons_succ]
    refine takeD (i := 6) (some 26) (.agg (bcells R)) rfl rfl (by kernel_rfl) (by kernel_rfl) (by kernel_rfl) (fun _ _ _ h => h) (yields_loadW (by rfl) (.tmp 25) rfl b o1 R rfl (fun _ h => h.2) HRL.out) hHeld ?_
    simp only [Act.put, List.setIfInBounds_toArray, List.set_cons_zero, List.set_cons_succ]
    refine takeD (i := 7) (some 27) (.bool true) rfl rfl (by kernel_rfl) (by kernel_rfl) (by kernel_rfl) (fun _ _ _ h => h) (yields_eqlW (by rfl) (.tmp 23) (.tmp 26) rfl R R true rfl rfl HRL.out HRL.out (by simp)) hHeld ?_
    simp only [Act.put, List.setIfInBounds_toArray, List.set_cons_zero, List.set_cons_succ]
    refine takeD (i := 8) (some 28) (.bool true) rfl rfl (by kernel_rfl) (by kernel_rfl) (by kernel_rfl) (fun _ _ _ h => h) (Or.inl ⟨by rfl, fun _ _ => rfl⟩) hHeld ?_
    simp only [Act.put, List.setIfInBounds_toArray, List.set_cons_zero, List.set_cons_succ]
    refine takeD (i := 9) (some 29) (.bool true) rfl rfl (by kernel_rfl) (by kernel_rfl) (by kernel_rfl) (fun _ _ _ h => h) (Or.inl ⟨by rfl, fun _ _ => rfl⟩) hHeld ?_
    simp only [Act.put, List.setIfInBounds_toArray, List.set_cons_zero, List.set_cons_succ]
    refine wpAnyH_ready (rs := [10]) (by kernel_rfl) (by decide) ?_
    refine AllReadyH.cons rfl (fun K' hK => ?_) AllReadyH.nil
    go_simp
    refine (awake_any w4.drew (HT.out.below hb4'.drew)).mono ?_
    rintro e9 w9 ⟨rfl, hb9⟩
    have B9 : Below w4.heap.size w4 w9 := B0.trans (hb9.mono B0.size)
    refine hK.out _ _ (KP.out _ B9) (fun hHeld9 => ?_)
    clear hK
    (try simp only [Act.put, List.setIfInBounds_toArray, List.set_cons_zero, List.set_cons_succ])
    refine takeD (i := 11) (some 31) (.bool true) rfl rfl (by kernel_rfl) (by kernel_rfl) (by kernel_rfl) (fun _ _ _ h => h) (Or.inl ⟨by rfl, fun _ _ => rfl⟩) hHeld9 ?_
    simp only [Act.put, List.setIfInBounds_toArray, List.set_cons_zero, List.set_cons_succ]
    refine takeD (i := 12) (some 2) (.bool true) rfl rfl (by kernel_rfl) (by kernel_rfl) (by kernel_rfl) (fun _ _ _ h => h) (Or.inl ⟨by rfl, fun _ _ => rfl⟩) hHeld9 ?_
    simp only [Act.put, List.setIfInBounds_toArray, List.set_cons_zero, List.set_cons_succ]
    (try simp only [Act.put, List.setIfInBounds_toArray])
    refine wpAnyH_done (by kernel_rfl) ?_ _
    refine NoPanic.normal ?_
    go_wp2_with fail
    go_ret
    exact ⟨rfl, hb4'.trans (B9.mono hb4'.size)⟩
  · obtain ⟨h, R, X, Y, hmh, hh0, hh1, hRe, hRl, hXl, hYl, hrt, hxt, hyt⟩ := half_in hk HM.out HD1.out.1 HD1.out.2.1
    have hne : ((m : Int) == 1) = false := by simp; omega
    have hdiv : ((m : Int)).tdiv 2 = (h : Int) := by rw [hmh, Int.tdiv_eq_ediv_of_nonneg (by omega)]; omega
    have HHN := Lib.hid (show m - h = h by omega)
    have hhm : h ≤ m := by omega
    have hm64 : m ≤ 64 := by omega
    have HRT := Lib.hid hrt
    have HXT := Lib.hid hxt
    have HYT := Lib.hid hyt
    have HRL := Lib.hid hRl
    have HXL := Lib.hid hXl
    have HYL := Lib.hid hYl
    have HRS := Lib.hid (show (bcells R).size = 32 by rw [bcells_size]; exact hRl)
    have HXS := Lib.hid (show (bcells X).size = 32 by rw [bcells_size]; exact hXl)
    have HYS := Lib.hid (show (bcells Y).size = 32 by rw [bcells_size]; exact hYl)
    have HAB := Lib.hid (fun w hT => show Calls Tryd.prog 13 #[.agg (bcells X), .agg (bcells Y)] w fun e w' => e = .returned (.agg (bcells R)) ∧ Below w.heap.size w w' by rw [hRe]; exact Above_any X Y w hXl hYl hT)
    clear hmh hRe hRl hXl hYl hrt hxt hyt
    refine (own_any _ m c1 M w1 HD1.out (by omega)).mono ?_
    rintro e2 w2 ⟨A2, c2, rfl, hc2, hd2, hb2⟩
    have HD2 := Lib.hid hd2
    have hb2' := hb1.trans (hb2.mono hb1.size)
    clear hd2
    go_wp2_with (first
      | (go_at_call 10; have hz := HX7; clear hz; refine (HYT.out A8 c8 w8 HD8.out (HT.out.below hb8')).mono ?_; rintro e9 w9 ⟨rfl, hb9⟩; have hb9' := hb8'.trans (hb9.mono hb8'.size); have HR9 := Lib.hid (HR8.out.below hb9 HR8.out.lt); have HX9 := Lib.hid (HX8.out.below hb9 HX8.out.lt))
      | (go_at_call 10; have hz := HR4; clear hz; refine (HXT.out A5 c5 w5 HD5.out (HT.out.below hb5')).mono ?_; rintro e6 w6 ⟨rfl, hb6⟩; have hb6' := hb5'.trans (hb6.mono hb5'.size); have HR6 := Lib.hid (HR5.out.below hb6 HR5.out.lt))
      | (go_at_call 10; refine (HRT.out A2 c2 w2 HD2.out (HT.out.below hb2')).mono ?_; rintro e3 w3 ⟨rfl, hb3⟩; have hb3' := hb2'.trans (hb3.mono hb2'.size))
      | (with_reducible refine wpList_store_row Tryd.agg25 rfl (.tmp 3) (.tmp 15) rfl _ _ rfl rfl 24 lit32 (Row.new w3 24 lit32) HRS.out lit32_size (bcells_one _) ?_; intro w4 hr4 ho4; have HR4 := Lib.hid hr4; have b4 : Below w3.heap.size w3 w4 := ((Below.refl _ _).alloc (Nat.le_refl _) _).trans (ho4.below (Nat.le_refl _) (by simp)); have hb4' := hb3'.trans (b4.mono hb3'.size); have HD4 := Lib.hid (((HD1.out.below hb2).below hb3).below b4); clear hr4)
      | (with_reducible refine wpList_headD rfl (.tmp 33) (.tmp 36) rfl A1 m c1 h _ rfl rfl rfl hhm hc1 ?_; intro A4 d4 _; have HA4 := Lib.hid (d4 w4 M HD4.out); clear d4)
      | (go_at_call 11; have hz := HX7; clear hz; refine (own_any A7 h _ (M.drop h) w7 HA7.out (by omega)).mono ?_; rintro e8 w8 ⟨A8, c8, rfl, hc8, hd8, hb8⟩; have HD8 := Lib.hid hd8; have hb8' := hb7'.trans (hb8.mono hb7'.size); have HR8 := Lib.hid (HR7.out.below hb8 HR7.out.lt); have HX8 := Lib.hid (HX7.out.below hb8 HX7.out.lt); clear hd8)
      | (go_at_call 11; refine (own_any A4 h c1 (M.take h) w4 HA4.out (by omega)).mono ?_; rintro e5 w5 ⟨A5, c5, rfl, hc5, hd5, hb5⟩; have HD5 := Lib.hid hd5; have hb5' := hb4'.trans (hb5.mono hb4'.size); have HR5 := Lib.hid (HR4.out.below hb5 HR4.out.lt); clear hd5)
      | (with_reducible refine wpList_store_row Tryd.agg25 rfl (.tmp 5) (.tmp 40) rfl _ _ rfl rfl 24 lit32 (Row.new w6 24 lit32) HXS.out lit32_size (bcells_one _) ?_; intro w7 hr7 ho7; have HX7 := Lib.hid hr7; have b7 : Below w6.heap.size w6 w7 := ((Below.refl _ _).alloc (Nat.le_refl _) _).trans (ho7.below (Nat.le_refl _) (by simp)); have hb7' := hb6'.trans (b7.mono hb6'.size); have HR7 := Lib.hid (HR6.out.below b7 HR6.out.lt); have HD7 := Lib.hid (((HD4.out.below hb5).below hb6).below b7); clear hr7)
      | (with_reducible refine wpList_fromD rfl (.tmp 43) (.tmp 46) rfl A1 m c1 h _ rfl rfl rfl hhm hc1 ?_; intro A7 d7 _; rw [HHN.out] at d7 ⊢; have HA7 := Lib.hid (d7 w7 M HD7.out); clear d7)
      | (with_reducible refine wpList_store_row Tryd.agg25 rfl (.tmp 7) (.tmp 50) rfl _ _ rfl rfl 24 lit32 (Row.new w9 24 lit32) HYS.out lit32_size (bcells_one _) ?_; intro w10 hr10 ho10; have HY10 := Lib.hid hr10; have b10 : Below w9.heap.size w9 w10 := ((Below.refl _ _).alloc (Nat.le_refl _) _).trans (ho10.below (Nat.le_refl _) (by simp)); have hb10' := hb9'.trans (b10.mono hb9'.size); have HR10 := Lib.hid (HR9.out.below b10 HR9.out.lt); have HX10 := Lib.hid (HX9.out.below b10 HX9.out.lt); clear hr10))
    obtain ⟨g3, hg3⟩ : ∃ g, g = w3.heap.size := ⟨_, rfl⟩
    obtain ⟨g5, hg5⟩ : ∃ g, g = w6.heap.size := ⟨_, rfl⟩
    obtain ⟨g7, hg7⟩ : ∃ g, g = w9.heap.size := ⟨_, rfl⟩
    rw [← hg3] at HR10 ⊢
    rw [← hg5] at HX10 ⊢
    rw [← hg7] at HY10 ⊢
    clear hg3 hg5 hg7
    have B0 : Below w10.heap.size w10 w10.drew := (Below.refl w10.heap.size w10).drew
    have KP : Hid (∀ wq, Below w10.heap.size w10 wq → wq.rangeAt g3 0 (R.map bcell) ∧ wq.rangeAt g5 0 (X.map bcell) ∧ wq.rangeAt g7 0 (Y.map bcell)) := Lib.hid (fun wq hb => ⟨range_row (HR10.out.below hb HR10.out.lt), range_row (HX10.out.below hb HX10.out.lt), range_row (HY10.out.below hb HY10.out.lt)⟩)
    refine wp_region_noPanic ?_
    refine wp_region_held_drew (S := fun w' => w'.rangeAt g3 0 (R.map bcell) ∧ w'.rangeAt g5 0 (X.map bcell) ∧ w'.rangeAt g7 0 (Y.map bcell)) (by kernel_rfl) (KP.out _ B0) (fun hHeld => ?_)
    refine takeD (i := 0) (some 52) (.int .i64 0) rfl rfl (by kernel_rfl) (by kernel_rfl) (by kernel_rfl) (fun _ _ _ h => h) (Or.inl ⟨by rfl, fun _ _ => rfl⟩) hHeld ?_
    simp only [Act.put, List.setIfInBounds_toArray, List.set_cons_zero, List.set_cons_succ]
    refine takeD (i := 1) (some 53) (.bool true) rfl rfl (by kernel_rfl) (by kernel_rfl) (by kernel_rfl) (fun _ _ _ h => h) (yields_eqE (by rfl) (.tmp 52) _ rfl 0 0 true rfl rfl rfl) hHeld ?_
    simp only [Act.put, List.setIfInBounds_toArray, List.set_cons_zero, List.set_cons_succ]
    refine takeD (i := 2) (some 54) (.bool true) rfl rfl (by kernel_rfl) (by kernel_rfl) (by kernel_rfl) (fun _ _ _ h => h) (Or.inl ⟨by rfl, fun _ _ => rfl⟩) hHeld ?_
    simp only [Act.put, List.setIfInBounds_toArray, List.set_cons_zero, List.set_cons_succ]
    refine takeD (i := 3) (some 55) (.int .i64 0) rfl rfl (by kernel_rfl) (by kernel_rfl) (by kernel_rfl) (fun _ _ _ h => h) (Or.inl ⟨by rfl, fun _ _ => rfl⟩) hHeld ?_
    simp only [Act.put, List.setIfInBounds_toArray, List.set_cons_zero, List.set_cons_succ]
    refine takeD (i := 4) (some 56) (.bool true) rfl rfl (by kernel_rfl) (by kernel_rfl) (by kernel_rfl) (fun _ _ _ h => h) (yields_eqE (by rfl) (.tmp 55) _ rfl 0 0 true rfl rfl rfl) hHeld ?_
    simp only [Act.put, List.setIfInBounds_toArray, List.set_cons_zero, List.set_cons_succ]
    refine takeD (i := 5) (some 57) (.bool true) rfl rfl (by kernel_rfl) (by kernel_rfl) (by kernel_rfl) (fun _ _ _ h => h) (Or.inl ⟨by rfl, fun _ _ => rfl⟩) hHeld ?_
    simp only [Act.put, List.setIfInBounds_toArray, List.set_cons_zero, List.set_cons_succ]
    refine takeD (i := 6) (some 58) (.bool true) rfl rfl (by kernel_rfl) (by kernel_rfl) (by kernel_rfl) (fun _ _ _ h => h) (Or.inl ⟨by rfl, fun _ _ => rfl⟩) hHeld ?_
    simp only [Act.put, List.setIfInBounds_toArray, List.set_cons_zero, List.set_cons_succ]
    refine takeD (i := 7) (some 59) (.int .i64 0) rfl rfl (by kernel_rfl) (by kernel_rfl) (by kernel_rfl) (fun _ _ _ h => h) (Or.inl ⟨by rfl, fun _ _ => rfl⟩) hHeld ?_
    simp only [Act.put, List.setIfInBounds_toArray, List.set_cons_zero, List.set_cons_succ]
    refine takeD (i := 8) (some 60) (.bool true) rfl rfl (by kernel_rfl) (by kernel_rfl) (by kernel_rfl) (fun _ _ _ h => h) (yields_eqE (by rfl) (.tmp 59) _ rfl 0 0 true rfl rfl rfl) hHeld ?_
    simp only [Act.put, List.setIfInBounds_toArray, List.set_cons_zero, List.set_cons_succ]
    refine takeD (i := 9) (some 61) (.bool true) rfl rfl (by kernel_rfl) (by kernel_rfl) (by kernel_rfl) (fun _ _ _ h => h) (Or.inl ⟨by rfl, fun _ _ => rfl⟩) hHeld ?_
    simp only [Act.put, List.setIfInBounds_toArray, List.set_cons_zero, List.set_cons_succ]
    refine takeD (i := 10) (some 62) (.bool true) rfl rfl (by kernel_rfl) (by kernel_rfl) (by kernel_rfl) (fun _ _ _ h => h) (Or.inl ⟨by rfl, fun _ _ => rfl⟩) hHeld ?_
    simp only [Act.put, List.setIfInBounds_toArray, List.set_cons_zero, List.set_cons_succ]
    refine takeD (i := 11) (some 63) (.agg (bcells R)) rfl rfl (by kernel_rfl) (by kernel_rfl) (by kernel_rfl) (fun _ _ _ h => h) (yields_loadW (by rfl) (.tmp 3) rfl g3 0 R rfl (fun _ h => h.1) HRL.out) hHeld ?_
    simp only [Act.put, List.setIfInBounds_toArray, List.set_cons_zero, List.set_cons_succ]
    refine takeD (i := 12) (some 64) (.agg (bcells X)) rfl rfl (by kernel_rfl) (by kernel_rfl) (by kernel_rfl) (fun _ _ _ h => h) (yields_loadW (by rfl) (.tmp 5) rfl g5 0 X rfl (fun _ h => h.2.1) HXL.out) hHeld ?_
    simp only [Act.put, List.setIfInBounds_toArray, List.set_cons_zero, List.set_cons_succ]
    refine takeD (i := 13) (some 65) (.agg (bcells Y)) rfl rfl (by kernel_rfl) (by kernel_rfl) (by kernel_rfl) (fun _ _ _ h => h) (yields_loadW (by rfl) (.tmp 7) rfl g7 0 Y rfl (fun _ h => h.2.2) HYL.out) hHeld ?_
    simp only [Act.put, List.setIfInBounds_toArray, List.set_cons_zero, List.set_cons_succ]
    refine wpAnyH_ready (rs := [14]) (by kernel_rfl) (by decide) ?_
    refine AllReadyH.cons rfl (fun K' hK => ?_) AllReadyH.nil
    go_simp
    refine (HAB.out w10.drew (HT.out.below hb10'.drew)).mono ?_
    rintro e11 w11 ⟨rfl, hb11⟩
    have B11 : Below w10.heap.size w10 w11 := B0.trans (hb11.mono B0.size)
    refine hK.out _ _ (KP.out _ B11) (fun hHeld11 => ?_)
    clear hK
    (try simp only [Act.put, List.setIfInBounds_toArray, List.set_cons_zero, List.set_cons_succ])
    refine takeD (i := 15) (some 67) (.bool true) rfl rfl (by kernel_rfl) (by kernel_rfl) (by kernel_rfl) (fun _ _ _ h => h) (yields_eqlW (by rfl) (.tmp 63) (.tmp 66) rfl R R true rfl rfl HRL.out HRL.out (by simp)) hHeld11 ?_
    simp only [Act.put, List.setIfInBounds_toArray, List.set_cons_zero, List.set_cons_succ]
    refine takeD (i := 16) (some 68) (.bool true) rfl rfl (by kernel_rfl) (by kernel_rfl) (by kernel_rfl) (fun _ _ _ h => h) (Or.inl ⟨by rfl, fun _ _ => rfl⟩) hHeld11 ?_
    simp only [Act.put, List.setIfInBounds_toArray, List.set_cons_zero, List.set_cons_succ]
    refine takeD (i := 17) (some 69) (.bool true) rfl rfl (by kernel_rfl) (by kernel_rfl) (by kernel_rfl) (fun _ _ _ h => h) (Or.inl ⟨by rfl, fun _ _ => rfl⟩) hHeld11 ?_
    simp only [Act.put, List.setIfInBounds_toArray, List.set_cons_zero, List.set_cons_succ]
    refine wpAnyH_ready (rs := [18]) (by kernel_rfl) (by decide) ?_
    refine AllReadyH.cons rfl (fun K' hK => ?_) AllReadyH.nil
    go_simp
    refine (awake_any w11 (HT.out.below (hb10'.trans (B11.mono hb10'.size)))).mono ?_
    rintro e12 w12 ⟨rfl, hb12⟩
    have B12 : Below w10.heap.size w10 w12 := B11.trans (hb12.mono B11.size)
    refine hK.out _ _ (KP.out _ B12) (fun hHeld12 => ?_)
    clear hK
    (try simp only [Act.put, List.setIfInBounds_toArray, List.set_cons_zero, List.set_cons_succ])
    refine takeD (i := 19) (some 71) (.bool true) rfl rfl (by kernel_rfl) (by kernel_rfl) (by kernel_rfl) (fun _ _ _ h => h) (Or.inl ⟨by rfl, fun _ _ => rfl⟩) hHeld12 ?_
    simp only [Act.put, List.setIfInBounds_toArray, List.set_cons_zero, List.set_cons_succ]
    refine takeD (i := 20) (some 2) (.bool true) rfl rfl (by kernel_rfl) (by kernel_rfl) (by kernel_rfl) (fun _ _ _ h => h) (Or.inl ⟨by rfl, fun _ _ => rfl⟩) hHeld12 ?_
    simp only [Act.put, List.setIfInBounds_toArray, List.set_cons_zero, List.set_cons_succ]
    (try simp only [Act.put, List.setIfInBounds_toArray])
    refine wpAnyH_done (by kernel_rfl) ?_ _
    refine NoPanic.normal ?_
    go_wp2_with fail
    go_ret
    exact ⟨rfl, hb10'.trans (B12.mono hb10'.size)⟩

set_option maxRecDepth 100000 in
theorem lifted (os : Os) (started : os.Started) (H : Type) (enc : TypeId × Value → H) :
    ReturnsInHanded {} Tryd.checked os 7 .any (fun w args => (Rows.treeHalvesSpec.pre enc Tryd.prog Tryd.f7 Rows.treeHalvesRow.domain false w args ∧ laidMetH Tryd.prog lay1 w) ∧ sizedMet enc Tryd.prog Tryd.f7 (OpenSpec.ofChange Rows.treeHalvesSpec) false w args)
      (Rows.treeHalvesSpec.post enc Tryd.prog Tryd.f7 false true false false) := by
  refine returnsInHanded_of_change_and (C := Tryd.checked) (X := fun w _ => laidMetH Tryd.prog lay1 w) (fun _ _ _ hh h => h.of_heap hh) own started (by kernel_rfl) Tryd.func7
    (ChangeSpec.witness_shaped (enc := enc) (C := Tryd.checked) (os := os) (X := fun w _ => laidMetH Tryd.prog lay1 w) false (World.laidAll Tryd.prog os lay1) #[.slice none 0 0] 8 rfl (World.shaped_of_ZipB (by kernel_rfl) (by kernel_rfl)) (by kernel_rfl) (by kernel_rfl) (by kernel_rfl) (met1 os _)) ?_
  intro W base args ds gs before hval0 hW hcnd hsz0 hL _
  have hval : ∀ (j : Nat) t v, Tryd.f7.params[j]? = some t → args[j]? = some v → Value.okWide Tryd.prog W .any base t v := hval0
  have hW' := hW
  obtain ⟨p, q, hA0, hV, rfl, hfz, hnd⟩ := hW
  have hA : DataW.TrodAll enc Tryd.prog W 0 (fun _ => true) true Tryd.f7.params.toList args.toList ds p := hA0
  have hsz : (DataW.weightsEach Tryd.prog (Tryd.f7.params.toList ++ Rows.treeHalvesSpec.plain.varTypes Tryd.prog) (ds ++ gs)).all (· ≤ reachBytes) = true := hsz0
  rw [Tryd.params7] at hA hval hsz
  obtain ⟨v0, vs0, d0, ds0, p0, q0, hargs, rfl, rfl, h0, r0⟩ := trodAll_cons hA
  obtain ⟨rfl, rfl, rfl⟩ := trodAll_nil r0
  obtain rfl : args = #[v0] := by cases args; simp_all
  obtain ⟨rfl, rfl⟩ := trodVars_none hV
  have k0 := h0
  have lt0 : ∀ x ∈ p0, x.block < W.heap.size := by obtain ⟨m, hm⟩ := k0; exact DataW.trod_lt m _ _ _ hm
  obtain ⟨a0, len0, cap0, l0, rfl, w0, s0⟩ := open_ds (hval 0 22 v0 rfl rfl) h0
  have hTab := of_lay1 hL
  clear hA0 hval0
  refine (walk W a0 len0 cap0 l0 w0 s0 hTab).mono fun e W' ⟨he, bel⟩ => ?_
  subst he
  exact ⟨_, rfl, _, _, _, [], _, [], hW', trodAll_mk1 (shut_bool Tryd.underlying4 _), (trodAll_cons_mk (Below.trod laidOut (by kernel_rfl) (of_decide_eq_true (by kernel_rfl)) k0 bel lt0) trodAll_mk0), rfl, bel.frame _, fun h => by cases h⟩
theorem over : Rows.treeHalvesRow.holds Tryd.pinned (OpenSpec.ofChange Rows.treeHalvesSpec) :=
  OpenClaim.holds_of_wide 7 Tryd.f7 rfl rfl rfl rfl rfl rfl rfl ⟨rfl, rfl, rfl, rfl, rfl⟩ rfl rfl rfl rfl rfl (by kernel_rfl) Tryd.func7 (by kernel_rfl)
    (of_decide_eq_true (by kernel_rfl)) (by unfold Func.isWrapper; first | (rw [if_pos (by decide +kernel)]; kernel_rfl) | (rw [if_neg (by decide +kernel)]; exact ⟨rfl, rfl⟩))
    (fun os started H enc _ => lifted os started H enc)
theorem treeHalves_holds : Rows.TreeHalvesCardSaid :=
  Claim7.holds_tied_plain_at .later [] [.data] true (true, "88038e2d516bc315e4e17de3119a76fa62516c6ce152f586382fba84026f3fa9") false
    over (fun _ h => by cases h) (by kernel_rfl) (fun _ h => by cases h) treeHalves_row_tie rfl ⟨rfl, rfl⟩ (by kernel_rfl) rfl
    (fun f fn hf hfn => by
      obtain rfl : f = 7 := Option.some.inj ((show Tryd.prog.funcNamed "jurat/juratlaw06.TreeHalves" = some 7 by kernel_rfl).symm.trans hf) |>.symm
      obtain rfl : fn = Tryd.f7 := (Option.some.inj (Tryd.func7.symm.trans hfn)).symm
      exact ⟨by kernel_rfl, fun j t ht => by
        rw [Tryd.params7] at ht
        have hm : t ∈ [22] := by simpa using Array.mem_of_getElem? ht
        have hall : ([22].all fun u => !Tryd.prog.wantsStandIn u) = true := by kernel_rfl
        exact (show Tryd.prog.wantsStandIn t = false by simpa using List.all_eq_true.1 hall t hm)⟩)
    (by kernel_rfl)
#print axioms treeHalves_holds
end Go.Proofs.YtiidcnjhjojhoaaDoor.treeHalves
